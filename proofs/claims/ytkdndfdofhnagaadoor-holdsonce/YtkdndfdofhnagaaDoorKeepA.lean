import Derived.Test.YtkdndfdofhnagaaDoorJI
namespace Go.Proofs.YtkdndfdofhnagaaDoor
open Go.RowKit Go.PlainAid
set_option linter.unusedVariables false
set_option linter.unusedSimpArgs false
/-- A copy of a row, in memory of its own. -/
theorem clone_run {L : Nat} {x : Dat} (w : World) (ho : w.ownsRow L 3 1 x.d x.zs.length (x.zs.map I)) (hs : x.zs.length ≤ 16) :
    ∃ v w', (Builtin.append_ #[48, 48] 48 #[.slice none 0 0, x.d]).run Tryd.prog w = .ok v w' ∧ w'.ownsRow w.heap.size 3 1 v x.zs.length (x.zs.map I) ∧ Below w.heap.size w w' := by
  obtain ⟨ao, cap, hd, _, _, hcell⟩ := own_read ho
  rw [hd]
  cases ao with
  | none =>
    have h0 : x.zs.length = 0 := by
      refine Decidable.byContradiction fun h => ?_
      obtain ⟨g, e, _⟩ := hcell (by omega)
      cases e
    have hz : x.zs = [] := List.length_eq_zero_iff.1 h0
    rcases ho.2 with ⟨h1, _⟩ | ⟨g, c, cur, h1, _⟩
    · rw [← hd, h1]
      obtain ⟨i0, hi, hz0, hz1, hz2⟩ := info_parts info3
      refine ⟨.slice none 0 0, w, run_append_owned_none (P := Tryd.prog) (w := w) w.heap.size 48 48 3 i0 1 Tryd.underlying48 hi (.slice none 0 0) 0 [] (World.ownsRow_nil _ _ _ _), by rw [hz]; exact World.ownsRow_nil _ _ _ _, Below.refl _ _⟩
    · rw [hd] at h1
      cases h1
  | some ad =>
    have hnews : ∀ j u, (x.zs.map I)[j]? = some u → w.cell? (ad.add j) = some u := fun j u hu => by
      obtain ⟨g, e, _, _, hc⟩ := hcell (by have h1 := (List.getElem?_eq_some_iff.1 hu).1; simp at h1; omega)
      cases e
      rw [addr_add, Nat.zero_add]
      exact hc j u hu
    obtain ⟨v', w', h1, h2, h3, _⟩ := app_any 48 3 (.int .i64 0) 1 8 Tryd.underlying48 info3 rfl (by decide) (by decide) (by decide) (World.ownsRow_nil w w.heap.size 3 1) ad x.zs.length cap (x.zs.map I) (by simp) hnews (oneI x.zs) (by omega) (Nat.le_refl _) 48
    refine ⟨v', w', h1, by simpa using h2, ?_⟩
    have h4 := h3.chg
    exact ⟨h4.os, h4.tape, h4.output, h4.size, fun k hk => h4.block k hk (fun e => by cases e)⟩
/-- A slice that lies in the new block is appended to a slice of slices. -/
theorem appT_run {w : World} {L n m cap : Nat} {ao : Option Addr} {d v : Value} {xs : List Value} (hd : d = .slice ao m cap) (hown : Tail w L 48 v n xs) (hlen : n + 1 ≤ 100000) (hbase : L ≤ w.heap.size) :
    ∃ g off c w', (Builtin.append_ #[59, 59] 59 #[v, .slice (some ⟨w.heap.size, 0, none⟩) 1 1]).run Tryd.prog (w.alloc (.cells #[d] 48)) = .ok (.slice (some ⟨g, off, none⟩) (n + 1) c) w' ∧ Tail w' L 48 (.slice (some ⟨g, off, none⟩) (n + 1) c) (n + 1) (xs ++ [d]) ∧ Chg (fun k => v.ownBlock = some k) w w' ∧ (v.ownBlock = some g ∨ w.heap.size ≤ g) := by
  obtain ⟨i0, hi, hz0, hz1, hz2⟩ := info_parts info48
  obtain ⟨g, off, c, w', h1, h2, h3, h4, h5⟩ := run_append_tail (P := Tryd.prog) (w.alloc (.cells #[d] 48)) 59 59 L 48 i0 (.slice none 0 0) 24 Tryd.underlying59 hi hz0 hz1 hz2 rfl v n xs (tail_alloc hown _) ⟨w.heap.size, 0, none⟩ 1 1 [d] rfl (fun j u hu => by
    match j with
    | 0 =>
      simp at hu
      subst hu
      rw [addr_add]
      exact cell_of_row _ _ 0 _ 48 (0, 0) (heap_alloc_new w _)
    | j + 1 => simp at hu) (fun u hu => by simp at hu; subst hu; exact oneS _ hd) (by decide) (by unfold maxLen; omega) (by omega) (by rw [World.size_alloc]; omega) _ rfl
  refine ⟨g, off, c, w', h1, h2, ⟨h3.os, h3.tape, h3.output, by have := h3.size; rw [World.size_alloc] at this; omega, fun k hk hn => (h3.block k (by rw [World.size_alloc]; omega) (fun e => hn e.symm)).trans (Below.heap_alloc _ _ _ hk)⟩, ?_⟩
  rcases h4 with h6 | h6
  · exact Or.inl h6
  · rw [World.size_alloc] at h6
    exact Or.inr (by omega)
structure KPost (L : Nat) (a : PA) (p : PS) (w w' : World) : Prop where
  ex : ∃ z', KSt L a p z' (p.mark + 1) w w' ∧ ZFull z' ∧ z'.fl = [] ∧ z'.ls.length ≤ p.z.ls.length + 1
set_option maxRecDepth 100000 in
set_option maxHeartbeats 3200000 in
theorem keepA_any {L : Nat} {a : PA} {p : PS} {x : Dat} (w : World) (hK : KSt L a p p.z p.mark w w) (hf : p.z.fl = [x]) (hF : ZFull p.z) (hm : 0 ≤ p.mark ∧ p.mark ≤ 3000) (hl : p.z.ls.length ≤ 3000) (h3 : (p.mark + 1) % 3 ≠ 0) :
    Calls Tryd.prog 46 #[.pointer (some ⟨a.pb, 0, none⟩), x.d] w fun r w' => r = .returned (.bool true) ∧ KPost L a p w w' := by
  have hwl : p.z.ws.length = p.z.ls.length := by have := congrArg List.length hF.same; simpa using this
  have hsh := hF.short x (by simp [ZS.dats, hf])
  obtain ⟨xao, xcap, hxd, _⟩ := own_slice (hK.sh.dat x (by simp [ZS.dats, hf]))
  obtain ⟨vfo, vfc, hvf, _⟩ := tail_form hK.sh.left
  obtain ⟨vwo, vwc, hvw, _⟩ := tail_form hK.sh.were
  have c8 := hK.c8
  have z8 := hK.fz 8
  have hw1 : IntKind.i64.wrap (p.mark + 1) = p.mark + 1 := by rw [IntKind.wrap_i64]; omega
  have hmd : (p.mark + 1).tmod 3 = (p.mark + 1) % 3 := Int.tmod_eq_emod_of_nonneg (by omega)
  have hK1 := hK.mark (p.mark + 1)
  have d8 := hK1.c8
  have d9 := hK1.c9
  rw [hvf] at d9
  have HF : Hid _ := hF
  have HSH : Hid _ := hsh
  have HWL : Hid _ := (show (toLeft p.z x (.slice none 0 0)).ws.length + 1 ≤ 100000 from by simp [toLeft]; omega)
  have HKm : Hid _ := hK1
  have HVF : Hid _ := hvf
  have HVW : Hid _ := hvw
  have hll : p.z.ls.length + 1 ≤ 100000 := by omega
  have HWQ : Hid _ := hwl
  have HFL : Hid _ := hf
  have HXD : Hid _ := hxd
  have hmodne : ¬ (p.mark + 1).tmod 3 = 0 := by rw [hmd]; exact h3
  clear hK hF hwl hsh hvf hvw h3 hmd hK1 hf hm hl
  rw [hxd]
  go_enter Tryd.func46, Tryd.ntmps46
  go_wp2_with (at_builtin; refine Mk.out ?_)
  refine Mk.mk ?_
  have hSm := HKm.out
  have hWz : (w.setCell ⟨a.pb, 8, none⟩ (.int .i64 (p.mark + 1))).heap.size = w.heap.size := by simp [World.setCell]
  generalize w.setCell ⟨a.pb, 8, none⟩ (.int .i64 (p.mark + 1)) = W at *
  refine wpList_appT rfl _ _ rfl L p.z.ls.length _ (p.z.ls.map Dat.d) rfl (show Tail W L 48 (.slice vfo p.z.ls.length vfc) _ _ from HVF.out ▸ hSm.sh.left) rfl (by first | rfl | exact hWz.symm) hll hSm.lowW ?_
  intro g1 o1 c1 w1 hT1 hgr1 hloc1
  rw [← HXD.out] at hT1
  have hgr1' : Chg (fun k => p.z.vf.ownBlock = some k) W w1 := HVF.out ▸ hgr1
  have hloc1' : p.z.vf.ownBlock = some g1 ∨ W.heap.size ≤ g1 := HVF.out ▸ hloc1
  have hz := hSm.sh.toLeft HFL.out hT1 hgr1' (fun k e => by cases e; exact hloc1')
  have hK2 : KSt L a p (toLeft p.z x (.slice (some ⟨g1, o1, none⟩) (p.z.ls.length + 1) c1)) (p.mark + 1) w (w1.setCell ⟨a.pb, 9, none⟩ (.slice (some ⟨g1, o1, none⟩) (p.z.ls.length + 1) c1)) := hSm.put hgr1' (fun k e => Or.inl ⟨p.z.vf, by simp [ZS.vals], e⟩) hz.1 hz.2 9 _ rfl
  have hb1 : Blk w1 a.pb (pairC a { p with mark := p.mark + 1 }) 61 := hgr1'.blk hSm.box (fun e => hSm.pbn ⟨p.z.vf, by simp [ZS.vals], e⟩)
  have e9 : w1.cell? ⟨a.pb, 9, none⟩ = some (.slice vfo p.z.ls.length vfc) := HVF.out ▸ hb1.cell 9
  have z9 := hb1.frozen 9
  have HK1 : Hid _ := hK2
  clear hWz hT1 hgr1 hgr1' hloc1 hloc1' hz hK2 hb1 hSm
  generalize hu : Value.slice (some ⟨g1, o1, none⟩) (p.z.ls.length + 1) c1 = u at *
  have HU : Hid _ := hu
  subst hu
  go_wp2_with fail
  generalize w1.setCell ⟨a.pb, 9, none⟩ (.slice (some ⟨g1, o1, none⟩) (p.z.ls.length + 1) c1) = Y at *
  rw [← HXD.out]
  rename_i K hK
  try rw [show ∀ a : Act, a.put none undef = a from fun _ => rfl]
  refine wp_region_mix (fun wr' => wr'.cell? ⟨a.pb, 10, none⟩ = some (Value.slice vwo p.z.ws.length vwc)) (fun i => i == 6 || i == 7 || i == 8 || i == 11) 11 (by kernel_rfl) rfl (by kernel_rfl) (by kernel_rfl) (by kernel_rfl) ?_
  have hS := HK1.out.drew
  generalize hYd : (Y.drew : World) = X at *
  try rw [show ({ Y with drawn := Y.drawn + 1 } : World) = X from hYd]
  clear hYd
  have hC : X.cell? ⟨a.pb, 10, none⟩ = some (Value.slice vwo p.z.ws.length vwc) := HVW.out ▸ hS.c10
  refine withFrP (N := 121) rfl ?_
  intro f0 F0 hff
  have hs0 : f0 0 = Value.pointer (some ⟨a.pb, 0, none⟩) := hff 0
  have hs1 : f0 1 = x.d := hff 1
  clear hff
  refine lyp F0 rfl hC rfl (by omega) (wanted_none rfl) (v := Value.pointer (some ⟨a.pb, 0, none⟩)) (fun wr hwr => by simp only [execOp, (F0.eval 0 (by omega)).trans (show _ = Value.pointer (some ⟨a.pb, 0, none⟩) from by simp [upd, hs0, hs1])]; first | rfl | simp [go_sem]) fun F1 => ?_
  refine lyp F1 rfl hC rfl (by omega) (wanted_none rfl) (v := Value.pointer (some ⟨a.pb, 0, none⟩)) (fun wr hwr => by simp only [execOp, (F1.eval 0 (by omega)).trans (show _ = Value.pointer (some ⟨a.pb, 0, none⟩) from by simp [upd, hs0, hs1])]; first | rfl | simp [go_sem]) fun F2 => ?_
  refine lyp F2 rfl hC rfl (by omega) (wanted_none rfl) (v := Value.pointer (some ⟨a.pb, 0, none⟩)) (fun wr hwr => by simp only [execOp, (F2.eval 32 (by omega)).trans (show _ = Value.pointer (some ⟨a.pb, 0, none⟩) from by simp [upd, hs0, hs1])]; simp [go_sem]) fun F3 => ?_
  refine lyp F3 rfl hC rfl (by omega) (wanted_none rfl) (v := Value.pointer (some ⟨a.pb, 10, none⟩)) (fun wr hwr => by simp only [execOp, (F3.eval 33 (by omega)).trans (show _ = Value.pointer (some ⟨a.pb, 0, none⟩) from by simp [upd, hs0, hs1])]; simp [go_sem]) fun F4 => ?_
  refine lyp F4 rfl hC rfl (by omega) (wanted_none rfl) (v := Value.slice vwo p.z.ws.length vwc) (fun wr hwr => by simp only [execOp, (F4.eval 34 (by omega)).trans (show _ = Value.pointer (some ⟨a.pb, 10, none⟩) from by simp [upd, hs0, hs1])]; simp [go_sem, hwr]) fun F5 => ?_
  refine lyp F5 rfl hC rfl (by omega) (wanted_none rfl) (v := x.d) (fun wr hwr => by simp only [execOp, (F5.eval 1 (by omega)).trans (show _ = x.d from by simp [upd, hs0, hs1])]; first | rfl | simp [go_sem]) fun F6 => ?_
  obtain ⟨l2, w1, hr1, ho1, hb1⟩ := clone_run (L := L) X (hS.sh.dat x (by simp [ZS.dats, toLeft])) HSH.out
  have hS1 := hS.below hb1
  have hC1 : w1.cell? ⟨a.pb, 10, none⟩ = some (Value.slice vwo p.z.ws.length vwc) := HVW.out ▸ hS1.c10
  refine lep F6 rfl hC rfl (by omega) (wanted_none rfl) (v := l2) (w1 := w1) (by simp only [execOp, resolve, invoke, builtin, List.map_toArray, List.map_cons, List.map_nil, (F6.eval 36 (by omega)).trans (show _ = x.d from by simp [upd, hs0, hs1])]; simp only [Act.eval, Sem.run_bind, hr1, Result.andThen_ok, Sem.run_pure]) fun F7 => ?_
  obtain ⟨l2o, l2c, hl2, _⟩ := own_slice ho1
  have hb2 : Below w1.heap.size w1 (w1.alloc (.cells #[l2] 48)) := (Below.refl _ _).alloc (Nat.le_refl _) _
  have hC2 : (w1.alloc (.cells #[l2] 48)).cell? ⟨a.pb, 10, none⟩ = some (Value.slice vwo p.z.ws.length vwc) := HVW.out ▸ (hS1.below hb2).c10
  refine lep F7 rfl hC1 rfl (by omega) (wanted_none rfl) (v := .slice (some ⟨w1.heap.size, 0, none⟩) 1 1) (w1 := w1.alloc (.cells #[l2] 48)) (by have he := (F7.eval 37 (by omega)).trans (show _ = l2 from by simp [upd, hs0, hs1]); rw [hl2] at he ⊢; simp only [execOp]; simp [go_sem, he]) fun F8 => ?_
  obtain ⟨g3, o3, c3, w3, hr3, hT3, hgr3, hloc3⟩ := appT_run (w := w1) hl2 hS1.sh.were HWL.out hS1.lowW
  rw [show (toLeft p.z x (.slice (some ⟨g1, o1, none⟩) (p.z.ls.length + 1) c1)).vw = Value.slice vwo p.z.ws.length vwc from HVW.out] at hr3
  refine lep F8 rfl hC2 rfl (by omega) (wanted_none rfl) (v := Value.slice (some ⟨g3, o3, none⟩) ((toLeft p.z x (.slice (some ⟨g1, o1, none⟩) (p.z.ls.length + 1) c1)).ws.length + 1) c3) (w1 := w3) (by simp only [execOp, resolve, invoke, builtin, List.map_toArray, List.map_cons, List.map_nil, (F8.eval 35 (by omega)).trans (show _ = Value.slice vwo p.z.ws.length vwc from by simp [upd, hs0, hs1]), (F8.eval 38 (by omega)).trans (show _ = Value.slice (some ⟨w1.heap.size, 0, none⟩) 1 1 from by simp [upd, hs0, hs1])]; simp only [Act.eval, Sem.run_bind, hr3, Result.andThen_ok, Sem.run_pure]) fun F9 => ?_
  have hz1 := hS1.sh.float rfl (x := ⟨l2, x.zs⟩) (ownsRow_mono ho1 hS.lowW) (fun k e e2 => by have h5 := (ownsRow_lt ho1 e).1; have h6 := (hS.sh.typ e2).2.1; omega)
  have hz1n : ∀ k, (setFl (toLeft p.z x (.slice (some ⟨g1, o1, none⟩) (p.z.ls.length + 1) c1)) [⟨l2, x.zs⟩]).has k → (toLeft p.z x (.slice (some ⟨g1, o1, none⟩) (p.z.ls.length + 1) c1)).has k ∨ X.heap.size ≤ k := fun k hk => (hz1.2 k hk).imp id (fun h5 => (ownsRow_lt ho1 h5).1)
  have hK2 : KSt L a p (setFl (toLeft p.z x (.slice (some ⟨g1, o1, none⟩) (p.z.ls.length + 1) c1)) [⟨l2, x.zs⟩]) (p.mark + 1) w w1 := hS.step (Chg.ofBelow (fun _ => False) hb1) (fun k e => False.elim e) hz1.1 hz1n ⟨rfl, rfl, rfl, rfl⟩
  have hW := hK2.sh.toWere rfl (x := ⟨l2, x.zs⟩) (u := Value.slice (some ⟨g3, o3, none⟩) ((toLeft p.z x (.slice (some ⟨g1, o1, none⟩) (p.z.ls.length + 1) c1)).ws.length + 1) c3) hT3 hgr3 (fun k e => by cases e; exact hloc3)
  have hK4 : KSt L a p (toWere (setFl (toLeft p.z x (.slice (some ⟨g1, o1, none⟩) (p.z.ls.length + 1) c1)) [⟨l2, x.zs⟩]) ⟨l2, x.zs⟩ (Value.slice (some ⟨g3, o3, none⟩) ((toLeft p.z x (.slice (some ⟨g1, o1, none⟩) (p.z.ls.length + 1) c1)).ws.length + 1) c3)) (p.mark + 1) w (w3.setCell ⟨a.pb, 10, none⟩ (Value.slice (some ⟨g3, o3, none⟩) ((toLeft p.z x (.slice (some ⟨g1, o1, none⟩) (p.z.ls.length + 1) c1)).ws.length + 1) c3)) := hK2.put hgr3 (fun k e => Or.inl ⟨p.z.vw, by simp [ZS.vals, setFl, toLeft], e⟩) hW.1 hW.2 10 _ rfl
  have hbox3 : Blk w3 a.pb (pairC a { p with z := toLeft p.z x (.slice (some ⟨g1, o1, none⟩) (p.z.ls.length + 1) c1), mark := p.mark + 1 }) 61 := hgr3.blk hS1.box (fun e => hS1.pbn ⟨p.z.vw, by simp [ZS.vals, toLeft], e⟩)
  have hC3 : w3.cell? ⟨a.pb, 10, none⟩ = some (Value.slice vwo p.z.ws.length vwc) := HVW.out ▸ hbox3.cell 10
  have hz3 := hbox3.frozen 10
  refine lyp F9 rfl hC3 rfl (by omega) (wanted_none rfl) (v := Value.pointer (some ⟨a.pb, 0, none⟩)) (fun wr hwr => by simp only [execOp, (F9.eval 31 (by omega)).trans (show _ = Value.pointer (some ⟨a.pb, 0, none⟩) from by simp [upd, hs0, hs1])]; simp [go_sem]) fun F10 => ?_
  refine lyp F10 rfl hC3 rfl (by omega) (wanted_none rfl) (v := Value.pointer (some ⟨a.pb, 10, none⟩)) (fun wr hwr => by simp only [execOp, (F10.eval 40 (by omega)).trans (show _ = Value.pointer (some ⟨a.pb, 0, none⟩) from by simp [upd, hs0, hs1])]; simp [go_sem]) fun F11 => ?_
  refine lst rfl hC3 rfl (wanted_none rfl) (w1 := w3.setCell ⟨a.pb, 10, none⟩ (Value.slice (some ⟨g3, o3, none⟩) ((toLeft p.z x (.slice (some ⟨g1, o1, none⟩) (p.z.ls.length + 1) c1)).ws.length + 1) c3)) (by simp only [execOp, (F11.eval 41 (by omega)).trans (show _ = Value.pointer (some ⟨a.pb, 10, none⟩) from by simp [upd, hs0, hs1]), (F11.eval 39 (by omega)).trans (show _ = Value.slice (some ⟨g3, o3, none⟩) ((toLeft p.z x (.slice (some ⟨g1, o1, none⟩) (p.z.ls.length + 1) c1)).ws.length + 1) c3 from by simp [upd, hs0, hs1])]; simp [go_sem, hC3, hz3]) ?_
  refine ⟨fun hle => absurd hle (by decide), ?_⟩
  refine hK _ _ ?_
  clear F0 F1 F2 F3 F4 F5 F6 F7 F8 F9 F10 F11 hs0 hs1 hC hC1 hC2 hC3 hz3 hbox3
  simp only [Act.put, List.setIfInBounds_toArray, List.set_cons_succ, List.set_cons_zero]
  have HK4 : Hid _ := hK4
  clear hK hS hS1 hz1 hz1n hK2 hW hK4 hr1 hr3 ho1 hb1 hb2 hT3 hgr3 hloc3
  go_wp2_with fail
  go_ret
  refine ⟨rfl, ⟨_, HK4.out, ?_, rfl, by simp [toWere, setFl, toLeft]⟩⟩
  have hF := HF.out
  have hfl := HFL.out
  refine ⟨hF.lens, hF.full, hF.few, fun y hy => ?_, ?_⟩
  · simp only [ZS.dats, toWere, setFl, toLeft, List.append_nil, List.mem_append, List.mem_singleton] at hy
    rcases hy with hy | (hy | hy) | (hy | hy)
    · exact hF.short y (by simp [ZS.dats, hy])
    · exact hF.short y (by simp [ZS.dats, hy])
    · subst hy; exact HSH.out
    · exact hF.short y (by simp [ZS.dats, hy])
    · subst hy; exact HSH.out
  · have := hF.same
    simp [toWere, setFl, toLeft, this]
end Go.Proofs.YtkdndfdofhnagaaDoor
