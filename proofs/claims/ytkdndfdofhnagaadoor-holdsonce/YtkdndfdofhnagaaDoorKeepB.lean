import Derived.Test.YtkdndfdofhnagaaDoorKeepC
namespace Go.Proofs.YtkdndfdofhnagaaDoor
open Go.RowKit Go.PlainAid
set_option linter.unusedVariables false
set_option linter.unusedSimpArgs false
theorem appI_run {w : World} {L n : Nat} {v : Value} {xs : List Value} (y : Int) (hown : Tail w L 3 v n xs) (hlen : n + 1 ≤ 100000) (hbase : L ≤ w.heap.size) :
    ∃ g off c w', (Builtin.append_ #[48, 48] 48 #[v, .slice (some ⟨w.heap.size, 0, none⟩) 1 1]).run Tryd.prog (w.alloc (.cells #[.int .i64 y] 3)) = .ok (.slice (some ⟨g, off, none⟩) (n + 1) c) w' ∧ Tail w' L 3 (.slice (some ⟨g, off, none⟩) (n + 1) c) (n + 1) (xs ++ [I y]) ∧ Chg (fun k => v.ownBlock = some k) w w' ∧ (v.ownBlock = some g ∨ w.heap.size ≤ g) := by
  obtain ⟨i0, hi, hz0, hz1, hz2⟩ := info_parts info3
  obtain ⟨g, off, c, w', h1, h2, h3, h4, h5⟩ := run_append_tail (P := Tryd.prog) (w.alloc (.cells #[.int .i64 y] 3)) 48 48 L 3 i0 (.int .i64 0) 8 Tryd.underlying48 hi hz0 hz1 hz2 rfl v n xs (tail_alloc hown _) ⟨w.heap.size, 0, none⟩ 1 1 [I y] rfl (fun j u hu => by
    match j with
    | 0 =>
      simp at hu
      subst hu
      rw [addr_add]
      exact cell_of_row _ _ 0 _ 3 (0, 0) (heap_alloc_new w _)
    | j + 1 => simp at hu) (fun u hu => by simp at hu; subst hu; rfl) (by decide) (by unfold maxLen; omega) (by omega) (by rw [World.size_alloc]; omega) _ rfl
  refine ⟨g, off, c, w', h1, h2, ⟨h3.os, h3.tape, h3.output, by have := h3.size; rw [World.size_alloc] at this; omega, fun k hk hn => (h3.block k (by rw [World.size_alloc]; omega) (fun e => hn e.symm)).trans (Below.heap_alloc _ _ _ hk)⟩, ?_⟩
  rcases h4 with h6 | h6
  · exact Or.inl h6
  · rw [World.size_alloc] at h6
    exact Or.inr (by omega)
/-- The answer, written up to k. -/
def upto (x : Dat) (y : Int) (k : Nat) : Dat := ⟨x.d, (x.zs.take k).map (fun _ => y) ++ x.zs.drop k⟩
theorem upto_0 (x : Dat) (y : Int) : upto x y 0 = x := by simp [upto]
theorem upto_len (x : Dat) (y : Int) (k : Nat) : (upto x y k).zs.length = x.zs.length := by simp [upto]; omega
theorem upto_all (x : Dat) (y : Int) {k : Nat} (h : x.zs.length ≤ k) : upto x y k = ⟨x.d, x.zs.map fun _ => y⟩ := by simp [upto, List.take_of_length_le h, List.drop_of_length_le h]
theorem upto_step (x : Dat) (y : Int) {k : Nat} (h : k < x.zs.length) : (⟨x.d, (upto x y k).zs.set k y⟩ : Dat) = upto x y (k + 1) := by
  unfold upto
  congr 1
  have hl : ((x.zs.take k).map (fun _ => y)).length = k := by rw [List.length_map, List.length_take]; omega
  show ((x.zs.take k).map (fun _ => y) ++ x.zs.drop k).set k y = _
  rw [List.take_add_one, List.drop_eq_getElem_cons h, List.set_append_right _ _ (by omega), List.getElem?_eq_getElem h, hl, Nat.sub_self]
  simp only [List.set_cons_zero, Option.toList_some, List.map_append, List.map_cons, List.map_nil, List.append_assoc, List.cons_append, List.nil_append]
theorem setFl_setFl (z : ZS) (a b : List Dat) : setFl (setFl z a) b = setFl z b := rfl
theorem setFl_same {z : ZS} {l : List Dat} (h : z.fl = l) : setFl z l = z := by cases z; simp only [setFl] at h ⊢; subst h; rfl
def FullL (ks : List Dat) (ms : List Int) : Prop := ∀ (i : Nat) (x : Dat) (m : Int), ks[i]? = some x → ms[i]? = some m → ∀ u ∈ x.zs, u = m
theorem FullL.push {ks : List Dat} {ms : List Int} (h : FullL ks ms) (hl : ms.length = ks.length) (d : Value) (zs : List Int) (y : Int) : FullL (ks ++ [⟨d, zs.map fun _ => y⟩]) (ms ++ [y]) := by
  intro i x m hx hm u hu
  by_cases hi : i < ks.length
  · rw [List.getElem?_append_left hi] at hx
    rw [List.getElem?_append_left (by omega)] at hm
    exact h i x m hx hm u hu
  · rw [List.getElem?_append_right (by omega)] at hx
    rw [List.getElem?_append_right (by omega)] at hm
    by_cases h0 : i - ks.length = 0
    · rw [h0] at hx
      rw [show i - ms.length = 0 by omega] at hm
      simp at hx hm
      subst hx
      subst hm
      simp at hu
      exact hu.2.symm
    · rw [List.getElem?_eq_none (by simp; omega)] at hx
      cases hx
theorem FullL.tail {ks : List Dat} {ms : List Int} (h : FullL ks ms) : FullL ks.tail ms.tail := by
  intro i x m hx hm
  rw [List.getElem?_tail] at hx hm
  exact h (i + 1) x m hx hm
/-- The answers stand behind one more, written full with its mark. -/
theorem ZFull.push {z : ZS} {x : Dat} {y : Int} {u1 u3 : Value} (h : ZFull z) (hf : z.fl = [x]) (h5 : z.ks.length + 1 ≤ 5) : ZFull (toMarks (toLists (setFl z [⟨x.d, x.zs.map fun _ => y⟩]) ⟨x.d, x.zs.map fun _ => y⟩ u1) y u3) := by
  refine ⟨by simp [toMarks, toLists, setFl, h.lens], FullL.push h.full h.lens _ _ _, by simp [toMarks, toLists, setFl]; omega, fun w hw => ?_, h.same⟩
  simp only [ZS.dats, toMarks, toLists, setFl, List.append_nil, List.mem_append, List.mem_singleton] at hw
  rcases hw with (hw | hw) | hw | hw
  · exact h.short w (by simp [ZS.dats, hw])
  · subst hw
    have := h.short x (by simp [ZS.dats, hf])
    simpa using this
  · exact h.short w (by simp [ZS.dats, hw])
  · exact h.short w (by simp [ZS.dats, hw])
theorem ZFull.pushCut {z : ZS} {x : Dat} {y : Int} {u1 u3 u1' u3' : Value} (h : ZFull z) (hf : z.fl = [x]) : ZFull (cutMarks (cutLists (toMarks (toLists (setFl z [⟨x.d, x.zs.map fun _ => y⟩]) ⟨x.d, x.zs.map fun _ => y⟩ u1) y u3) u1') u3') := by
  have hfew := h.few
  refine ⟨by simp [cutMarks, cutLists, toMarks, toLists, setFl, h.lens], (FullL.push h.full h.lens _ _ _).tail, by simp [cutMarks, cutLists, toMarks, toLists, setFl]; omega, fun w hw => ?_, h.same⟩
  simp only [ZS.dats, cutMarks, cutLists, toMarks, toLists, setFl, List.append_nil, List.mem_append] at hw
  rcases hw with hw | hw | hw
  · have hw2 := List.mem_of_mem_tail hw
    rcases List.mem_append.1 hw2 with hw3 | hw3
    · exact h.short w (by simp [ZS.dats, hw3])
    · simp at hw3
      subst hw3
      have := h.short x (by simp [ZS.dats, hf])
      simpa using this
  · exact h.short w (by simp [ZS.dats, hw])
  · exact h.short w (by simp [ZS.dats, hw])
def KL1 (L : Nat) (a : PA) (p : PS) (x : Dat) (y : Int) (k : Nat) (w wr : World) : Prop := KSt L a p (setFl p.z [upto x y k]) (p.mark + 1) w wr
def KL2 (L : Nat) (a : PA) (p : PS) (x : Dat) (y : Int) (j : Nat) (w wr : World) (mv : Value) : Prop := KSt L a p (setFl p.z [⟨x.d, x.zs.map fun _ => y⟩]) (p.mark + 1) w wr ∧ KMore L (setFl p.z [⟨x.d, x.zs.map fun _ => y⟩]) ⟨x.d, x.zs.map fun _ => y⟩ w wr mv (x.zs.length + j)
set_option maxRecDepth 100000 in
set_option maxHeartbeats 6400000 in
theorem keepB_any {L : Nat} {a : PA} {p : PS} {x : Dat} (w : World) (hK : KSt L a p p.z p.mark w w) (hf : p.z.fl = [x]) (hF : ZFull p.z) (hm : 0 ≤ p.mark ∧ p.mark ≤ 3000) (h3 : (p.mark + 1) % 3 = 0) :
    Calls Tryd.prog 46 #[.pointer (some ⟨a.pb, 0, none⟩), x.d] w fun r w' => r = .returned (.bool true) ∧ KPost L a p w w' := by
  have hsh := hF.short x (by simp [ZS.dats, hf])
  obtain ⟨xao, xcap, hxd, _⟩ := own_slice (hK.sh.dat x (by simp [ZS.dats, hf]))
  obtain ⟨vlo, vlc, hvl, _⟩ := tail_form hK.sh.lists
  obtain ⟨vmo, vmc, hvm, _⟩ := tail_form hK.sh.marks
  have c8 := hK.c8
  have z8 := hK.fz 8
  have hw1 : IntKind.i64.wrap (p.mark + 1) = p.mark + 1 := by rw [IntKind.wrap_i64]; omega
  have hwm1 : IntKind.i64.wrap (-1000 - (p.mark + 1)) = -1000 - (p.mark + 1) := by rw [IntKind.wrap_i64]; omega
  have hwm2 : IntKind.i64.wrap (-1000000 - (p.mark + 1)) = -1000000 - (p.mark + 1) := by rw [IntKind.wrap_i64]; omega
  have hmd : (p.mark + 1).tmod 3 = 0 := by rw [Int.tmod_eq_emod_of_nonneg (by omega)]; exact h3
  have hK1 := hK.mark (p.mark + 1)
  have d8 := hK1.c8
  have HF : Hid _ := hF
  have HSH : Hid _ := hsh
  have hmsl := hF.lens
  have HML : Hid _ := (show p.z.ms.length + 1 ≤ 100000 from by have := hF.few; omega)
  have hkl : p.z.ks.length + 1 ≤ 100000 := by have := hF.few; omega
  have hfew := hF.few
  have HKm : Hid _ := (show KL1 L a p x (-1000 - (p.mark + 1)) 0 w (w.setCell ⟨a.pb, 8, none⟩ (.int .i64 (p.mark + 1))) from by unfold KL1; rw [upto_0, setFl_same hf]; exact hK1)
  have HVL : Hid _ := hvl
  have HVM : Hid _ := hvm
  have HFL : Hid _ := hf
  have HXD : Hid _ := hxd
  have HMS : Hid _ := hmsl
  clear hK hF hvl hvm h3 hK1 hf hm hmsl
  rw [hxd]
  clear hxd
  go_enter Tryd.func46, Tryd.ntmps46
  go_wp2_with fail
  generalize w.setCell ⟨a.pb, 8, none⟩ (.int .i64 (p.mark + 1)) = W at *
  go_loopw [5] (fun i wr => ∃ k : Nat, k ≤ x.zs.length ∧ i = .int .i64 k ∧ KL1 L a p x (-1000 - (p.mark + 1)) k w wr) (fun i _ => x.zs.length - (intOf i).toNat)
  case atStart => exact ⟨0, Nat.zero_le _, rfl, HKm.out⟩
  case round =>
    obtain ⟨k, hk, rfl, hE⟩ := hrel
    unfold KL1 at hE
    have f8 := hE.c8
    by_cases hlt : k < x.zs.length
    · cases xao with
      | none =>
        exfalso
        have ho := hE.sh.dat (upto x (-1000 - (p.mark + 1)) k) (by simp [ZS.dats, setFl])
        obtain ⟨ao2, cap2, hd2, _, _, hc2⟩ := own_read ho
        rw [upto_len] at hc2
        obtain ⟨g2, e2, _⟩ := hc2 (by omega)
        have : x.d = .slice ao2 (upto x (-1000 - (p.mark + 1)) k).zs.length cap2 := hd2
        rw [HXD.out, e2] at this
        cases this
      | some ad =>
        have ho := hE.sh.dat (upto x (-1000 - (p.mark + 1)) k) (by simp [ZS.dats, setFl])
        obtain ⟨ao2, cap2, hd2, _, _, hc2⟩ := own_read ho
        rw [upto_len] at hc2
        obtain ⟨g2, e2, _⟩ := hc2 (by omega)
        have hd3 : x.d = .slice (some ⟨g2, 0, none⟩) (upto x (-1000 - (p.mark + 1)) k).zs.length cap2 := by rw [← e2]; exact hd2
        have hd4 : Value.slice (some ad) x.zs.length xcap = .slice (some ⟨g2, 0, none⟩) (upto x (-1000 - (p.mark + 1)) k).zs.length cap2 := HXD.out ▸ hd3
        simp only [Value.slice.injEq, Option.some.injEq] at hd4
        obtain ⟨rfl, _, rfl⟩ := hd4
        obtain ⟨hK2, hz2, u0, hu0⟩ := hE.write rfl hd3 (k := k) (by rw [upto_len]; exact hlt) (-1000 - (p.mark + 1))
        rw [setFl_setFl, show (⟨(upto x (-1000 - (p.mark + 1)) k).d, (upto x (-1000 - (p.mark + 1)) k).zs.set k (-1000 - (p.mark + 1))⟩ : Dat) = upto x (-1000 - (p.mark + 1)) (k + 1) from upto_step x _ hlt] at hK2
        have HK2 : Hid _ := hK2
        clear hE ho hc2 hd3 hd2 hK2
        unfold I at HK2
        go_wp2_with fail
        go_roundw
        case rel => exact ⟨k + 1, by omega, by go_num, HK2.out⟩
        case measure => simp [intOf]; omega
    · have hkk : k = x.zs.length := by omega
      rw [upto_all x _ (by omega)] at hE
      have H2 : Hid _ := (show KL2 L a p x (-1000 - (p.mark + 1)) 0 w wr (.slice xao x.zs.length xcap) from ⟨hE, ⟨⟨x.zs.map fun _ => -1000 - (p.mark + 1), by have := hE.sh.dat ⟨x.d, x.zs.map fun _ => -1000 - (p.mark + 1)⟩ (by simp [ZS.dats, setFl]); rw [← HXD.out]; simp only [List.length_map] at this; exact this⟩, fun k e => Or.inl (by rw [← HXD.out] at e; exact e)⟩⟩)
      clear hE
      go_wp2_with fail
      go_loopw [6, 7] (fun mv i wr => ∃ j : Nat, j ≤ 80 ∧ i = .int .i64 j ∧ KL2 L a p x (-1000 - (p.mark + 1)) j w wr mv) (fun _ i _ => 80 - (intOf i).toNat)
      case atStart => exact ⟨0, Nat.zero_le _, rfl, H2.out⟩
      case round =>
        obtain ⟨j, hj, rfl, hE, hM⟩ := hrel
        have f8 := hE.c8
        by_cases hlt : j < 80
        · obtain ⟨ys, hys⟩ := hM.own
          have hlow := hE.lowW
          have HE : Hid _ := hE
          have HM : Hid _ := hM
          have HYS : Hid _ := hys
          have hlen : x.zs.length + j + 1 ≤ 100000 := by omega
          clear hE hM hys
          go_wp2_with (at_builtin; refine Mk.out ?_)
          refine Mk.mk ?_
          refine wpList_appI rfl _ _ rfl L (x.zs.length + j) u6 ys rfl HYS.out (-1000000 - (p.mark + 1)) rfl (by first | rfl | simp) hlen hlow ?_
          intro v' w4 ho4 hg4 hin4
          have HN : Hid _ := HE.out.grow rfl HM.out (by simp) ho4 hg4 hin4
          clear ho4 hg4 hin4
          go_wp2_with fail
          go_roundw
          case rel => exact ⟨j + 1, by omega, by go_num, HN.out⟩
          case measure => simp [intOf]; omega
        · have hjj : j = 80 := by omega
          subst hjj
          obtain ⟨ys, hys⟩ := hM.own
          obtain ⟨mao, mcap, hmv, _⟩ := own_slice hys
          subst hmv
          have f6 : wr.cell? ⟨a.pb, 6, none⟩ = some (.slice vlo p.z.ks.length vlc) := HVL.out ▸ hE.c6
          have hlow := hE.lowW
          have HE : Hid _ := hE
          clear hE hM hys
          go_wp2_with (at_builtin; refine Mk.out ?_)
          refine Mk.mk ?_
          have hSm := HE.out
          refine wpList_appT rfl _ _ rfl L p.z.ks.length _ (p.z.ks.map Dat.d) rfl (show Tail wr L 48 (.slice vlo p.z.ks.length vlc) _ _ from HVL.out ▸ hSm.sh.lists) rfl (by first | rfl | simp) hkl hlow ?_
          intro g1 o1 c1 w1 hT1 hgr1 hloc1
          rw [← HXD.out] at hT1
          have hgr1' : Chg (fun k => p.z.vl.ownBlock = some k) wr w1 := HVL.out ▸ hgr1
          have hloc1' : p.z.vl.ownBlock = some g1 ∨ wr.heap.size ≤ g1 := HVL.out ▸ hloc1
          have hz := hSm.sh.toLists (x := ⟨x.d, x.zs.map fun _ => -1000 - (p.mark + 1)⟩) rfl hT1 hgr1' (fun k e => by cases e; exact hloc1')
          have hK2 : KSt L a p (toLists (setFl p.z [⟨x.d, x.zs.map fun _ => -1000 - (p.mark + 1)⟩]) ⟨x.d, x.zs.map fun _ => -1000 - (p.mark + 1)⟩ (.slice (some ⟨g1, o1, none⟩) (p.z.ks.length + 1) c1)) (p.mark + 1) w (w1.setCell ⟨a.pb, 6, none⟩ (.slice (some ⟨g1, o1, none⟩) (p.z.ks.length + 1) c1)) := hSm.put hgr1' (fun k e => Or.inl ⟨p.z.vl, by simp [ZS.vals, setFl], e⟩) hz.1 hz.2 6 _ rfl
          have hb1 : Blk w1 a.pb (pairC a { p with z := setFl p.z [⟨x.d, x.zs.map fun _ => -1000 - (p.mark + 1)⟩], mark := p.mark + 1 }) 61 := hgr1'.blk hSm.box (fun e => hSm.pbn ⟨p.z.vl, by simp [ZS.vals, setFl], e⟩)
          have e6 : w1.cell? ⟨a.pb, 6, none⟩ = some (.slice vlo p.z.ks.length vlc) := HVL.out ▸ hb1.cell 6
          have z6 := hb1.frozen 6
          have HK2 : Hid _ := hK2
          clear hT1 hgr1 hgr1' hloc1 hloc1' hz hK2 hb1 hSm
          go_wp2_with fail
          generalize w1.setCell ⟨a.pb, 6, none⟩ (.slice (some ⟨g1, o1, none⟩) (p.z.ks.length + 1) c1) = Y at *
          rename_i K hK
          try rw [show ∀ a : Act, a.put none undef = a from fun _ => rfl]
          refine wp_region_mix (fun wr' => wr'.cell? ⟨a.pb, 7, none⟩ = some (Value.slice vmo p.z.ms.length vmc) ∧ wr'.cell? ⟨a.pb, 8, none⟩ = some (.int .i64 (p.mark + 1))) (fun i => i == 10 || i == 11 || i == 14) 14 (by kernel_rfl) rfl (by kernel_rfl) (by kernel_rfl) (by kernel_rfl) ?_
          have hS := HK2.out.drew
          generalize hYd : (Y.drew : World) = X at *
          try rw [show ({ Y with drawn := Y.drawn + 1 } : World) = X from hYd]
          clear hYd
          have hC : X.cell? ⟨a.pb, 7, none⟩ = some (Value.slice vmo p.z.ms.length vmc) ∧ X.cell? ⟨a.pb, 8, none⟩ = some (.int .i64 (p.mark + 1)) := ⟨HVM.out ▸ hS.c7, hS.c8⟩
          refine withFrP (N := 121) rfl ?_
          intro f0 F0 hff
          have hs0 : f0 0 = Value.pointer (some ⟨a.pb, 0, none⟩) := hff 0
          clear hff
          refine lyp F0 rfl hC rfl (by omega) (wanted_none rfl) (v := Value.pointer (some ⟨a.pb, 0, none⟩)) (fun wr hwr => by simp only [execOp, (F0.eval 0 (by omega)).trans (show _ = Value.pointer (some ⟨a.pb, 0, none⟩) from by simp [upd, hs0])]; first | rfl | simp [go_sem]) fun F1 => ?_
          refine lyp F1 rfl hC rfl (by omega) (wanted_none rfl) (v := Value.pointer (some ⟨a.pb, 0, none⟩)) (fun wr hwr => by simp only [execOp, (F1.eval 0 (by omega)).trans (show _ = Value.pointer (some ⟨a.pb, 0, none⟩) from by simp [upd, hs0])]; first | rfl | simp [go_sem]) fun F2 => ?_
          refine lyp F2 rfl hC rfl (by omega) (wanted_none rfl) (v := Value.pointer (some ⟨a.pb, 0, none⟩)) (fun wr hwr => by simp only [execOp, (F2.eval 80 (by omega)).trans (show _ = Value.pointer (some ⟨a.pb, 0, none⟩) from by simp [upd, hs0])]; simp [go_sem]) fun F3 => ?_
          refine lyp F3 rfl hC rfl (by omega) (wanted_none rfl) (v := Value.pointer (some ⟨a.pb, 7, none⟩)) (fun wr hwr => by simp only [execOp, (F3.eval 81 (by omega)).trans (show _ = Value.pointer (some ⟨a.pb, 0, none⟩) from by simp [upd, hs0])]; simp [go_sem]) fun F4 => ?_
          refine lyp F4 rfl hC rfl (by omega) (wanted_none rfl) (v := Value.slice vmo p.z.ms.length vmc) (fun wr hwr => by simp only [execOp, (F4.eval 82 (by omega)).trans (show _ = Value.pointer (some ⟨a.pb, 7, none⟩) from by simp [upd, hs0])]; simp [go_sem, hwr.1]) fun F5 => ?_
          refine lyp F5 rfl hC rfl (by omega) (wanted_none rfl) (v := Value.pointer (some ⟨a.pb, 0, none⟩)) (fun wr hwr => by simp only [execOp, (F5.eval 0 (by omega)).trans (show _ = Value.pointer (some ⟨a.pb, 0, none⟩) from by simp [upd, hs0])]; first | rfl | simp [go_sem]) fun F6 => ?_
          refine lyp F6 rfl hC rfl (by omega) (wanted_none rfl) (v := Value.pointer (some ⟨a.pb, 0, none⟩)) (fun wr hwr => by simp only [execOp, (F6.eval 84 (by omega)).trans (show _ = Value.pointer (some ⟨a.pb, 0, none⟩) from by simp [upd, hs0])]; simp [go_sem]) fun F7 => ?_
          refine lyp F7 rfl hC rfl (by omega) (wanted_none rfl) (v := Value.pointer (some ⟨a.pb, 8, none⟩)) (fun wr hwr => by simp only [execOp, (F7.eval 85 (by omega)).trans (show _ = Value.pointer (some ⟨a.pb, 0, none⟩) from by simp [upd, hs0])]; simp [go_sem]) fun F8 => ?_
          refine lyp F8 rfl hC rfl (by omega) (wanted_none rfl) (v := Value.int .i64 (p.mark + 1)) (fun wr hwr => by simp only [execOp, (F8.eval 86 (by omega)).trans (show _ = Value.pointer (some ⟨a.pb, 8, none⟩) from by simp [upd, hs0])]; simp [go_sem, hwr.2]) fun F9 => ?_
          refine lyp F9 rfl hC rfl (by omega) (wanted_none rfl) (v := Value.int .i64 (-1000 - (p.mark + 1))) (fun wr hwr => by simp only [execOp, (F9.eval 87 (by omega)).trans (show _ = Value.int .i64 (p.mark + 1) from by simp [upd, hs0])]; simp [go_sem, Act.eval, hwm1]) fun F10 => ?_
          have hb2 : Below X.heap.size X (X.alloc (.cells #[.int .i64 (-1000 - (p.mark + 1))] 3)) := (Below.refl _ _).alloc (Nat.le_refl _) _
          have hC2 : (X.alloc (.cells #[.int .i64 (-1000 - (p.mark + 1))] 3)).cell? ⟨a.pb, 7, none⟩ = some (Value.slice vmo p.z.ms.length vmc) ∧ (X.alloc (.cells #[.int .i64 (-1000 - (p.mark + 1))] 3)).cell? ⟨a.pb, 8, none⟩ = some (.int .i64 (p.mark + 1)) := ⟨HVM.out ▸ (hS.below hb2).c7, (hS.below hb2).c8⟩
          refine lep F10 rfl hC rfl (by omega) (wanted_none rfl) (v := .slice (some ⟨X.heap.size, 0, none⟩) 1 1) (w1 := X.alloc (.cells #[.int .i64 (-1000 - (p.mark + 1))] 3)) (by simp only [execOp, (F10.eval 88 (by omega)).trans (show _ = Value.int .i64 (-1000 - (p.mark + 1)) from by simp [upd, hs0])]; simp [go_sem, (F10.eval 88 (by omega)).trans (show _ = Value.int .i64 (-1000 - (p.mark + 1)) from by simp [upd, hs0])]) fun F11 => ?_
          obtain ⟨g3, o3, c3, w3, hr3, hT3, hgr3, hloc3⟩ := appI_run (w := X) (-1000 - (p.mark + 1)) hS.sh.marks HML.out hS.lowW
          rw [show (toLists (setFl p.z [⟨x.d, x.zs.map fun _ => -1000 - (p.mark + 1)⟩]) ⟨x.d, x.zs.map fun _ => -1000 - (p.mark + 1)⟩ (.slice (some ⟨g1, o1, none⟩) (p.z.ks.length + 1) c1)).vm = Value.slice vmo p.z.ms.length vmc from HVM.out] at hr3
          refine lep F11 rfl hC2 rfl (by omega) (wanted_none rfl) (v := Value.slice (some ⟨g3, o3, none⟩) (p.z.ms.length + 1) c3) (w1 := w3) (by simp only [execOp, resolve, invoke, builtin, List.map_toArray, List.map_cons, List.map_nil, (F11.eval 83 (by omega)).trans (show _ = Value.slice vmo p.z.ms.length vmc from by simp [upd, hs0]), (F11.eval 89 (by omega)).trans (show _ = Value.slice (some ⟨X.heap.size, 0, none⟩) 1 1 from by simp [upd, hs0])]; simp only [Act.eval, Sem.run_bind, hr3, Result.andThen_ok, Sem.run_pure]; rfl) fun F12 => ?_
          have hW := hS.sh.toMarks (m := -1000 - (p.mark + 1)) (u := Value.slice (some ⟨g3, o3, none⟩) (p.z.ms.length + 1) c3) hT3 hgr3 (fun k e => by cases e; exact hloc3)
          have hK4 : KSt L a p (toMarks (toLists (setFl p.z [⟨x.d, x.zs.map fun _ => -1000 - (p.mark + 1)⟩]) ⟨x.d, x.zs.map fun _ => -1000 - (p.mark + 1)⟩ (.slice (some ⟨g1, o1, none⟩) (p.z.ks.length + 1) c1)) (-1000 - (p.mark + 1)) (Value.slice (some ⟨g3, o3, none⟩) (p.z.ms.length + 1) c3)) (p.mark + 1) w (w3.setCell ⟨a.pb, 7, none⟩ (Value.slice (some ⟨g3, o3, none⟩) (p.z.ms.length + 1) c3)) := hS.put hgr3 (fun k e => Or.inl ⟨p.z.vm, by simp [ZS.vals, setFl, toLists], e⟩) hW.1 hW.2 7 _ rfl
          have hbox3 : Blk w3 a.pb (pairC a { p with z := toLists (setFl p.z [⟨x.d, x.zs.map fun _ => -1000 - (p.mark + 1)⟩]) ⟨x.d, x.zs.map fun _ => -1000 - (p.mark + 1)⟩ (.slice (some ⟨g1, o1, none⟩) (p.z.ks.length + 1) c1), mark := p.mark + 1 }) 61 := hgr3.blk hS.box (fun e => hS.pbn ⟨p.z.vm, by simp [ZS.vals, setFl, toLists], e⟩)
          have hC3 : w3.cell? ⟨a.pb, 7, none⟩ = some (Value.slice vmo p.z.ms.length vmc) ∧ w3.cell? ⟨a.pb, 8, none⟩ = some (.int .i64 (p.mark + 1)) := ⟨HVM.out ▸ hbox3.cell 7, hbox3.cell 8⟩
          have hz3 := hbox3.frozen 7
          refine lyp F12 rfl hC3 rfl (by omega) (wanted_none rfl) (v := Value.pointer (some ⟨a.pb, 0, none⟩)) (fun wr hwr => by simp only [execOp, (F12.eval 79 (by omega)).trans (show _ = Value.pointer (some ⟨a.pb, 0, none⟩) from by simp [upd, hs0])]; simp [go_sem]) fun F13 => ?_
          refine lyp F13 rfl hC3 rfl (by omega) (wanted_none rfl) (v := Value.pointer (some ⟨a.pb, 7, none⟩)) (fun wr hwr => by simp only [execOp, (F13.eval 91 (by omega)).trans (show _ = Value.pointer (some ⟨a.pb, 0, none⟩) from by simp [upd, hs0])]; simp [go_sem]) fun F14 => ?_
          refine lst rfl hC3 rfl (wanted_none rfl) (w1 := w3.setCell ⟨a.pb, 7, none⟩ (Value.slice (some ⟨g3, o3, none⟩) (p.z.ms.length + 1) c3)) (by simp only [execOp, (F14.eval 92 (by omega)).trans (show _ = Value.pointer (some ⟨a.pb, 7, none⟩) from by simp [upd, hs0]), (F14.eval 90 (by omega)).trans (show _ = Value.slice (some ⟨g3, o3, none⟩) (p.z.ms.length + 1) c3 from by simp [upd, hs0])]; simp [go_sem, hC3.1, hz3]) ?_
          refine ⟨fun hle => absurd hle (by decide), ?_⟩
          refine hK _ _ ?_
          clear F0 F1 F2 F3 F4 F5 F6 F7 F8 F9 F10 F11 F12 F13 F14 hs0 hC hC2 hC3 hz3 hbox3
          simp only [Act.put, List.setIfInBounds_toArray, List.set_cons_succ, List.set_cons_zero]
          have HK4 : Hid _ := hK4
          have HT3 : Hid _ := hT3
          clear hK hS hW hK4 hr3 hb2 hT3 hgr3 hloc3
          generalize w3.setCell ⟨a.pb, 7, none⟩ (.slice (some ⟨g3, o3, none⟩) (p.z.ms.length + 1) c3) = Y2 at *
          have hS4 := HK4.out
          have h6 := hS4.c6
          have h7 := hS4.c7
          have k6 := hS4.fz 6
          have h6' : Y2.cell? ⟨a.pb, 6, none⟩ = some (.slice (some ⟨g1, o1, none⟩) (p.z.ks.length + 1) c1) := h6
          have h7' : Y2.cell? ⟨a.pb, 7, none⟩ = some (.slice (some ⟨g3, o3, none⟩) (p.z.ms.length + 1) c3) := h7
          clear h6 h7 hS4
          by_cases hbig : 4 < p.z.ks.length + 1
          · have hS4 := HK4.out
            obtain ⟨y0, ys0, hks⟩ : ∃ y0 ys0, p.z.ks ++ [(⟨x.d, x.zs.map fun _ => -1000 - (p.mark + 1)⟩ : Dat)] = y0 :: ys0 := by
              cases hq : p.z.ks with
              | nil => exact ⟨_, _, rfl⟩
              | cons y t => exact ⟨_, _, rfl⟩
            obtain ⟨m0, mt0, hms⟩ : ∃ m0 mt0, p.z.ms ++ [-1000 - (p.mark + 1)] = m0 :: mt0 := by
              cases hq : p.z.ms with
              | nil => exact ⟨_, _, rfl⟩
              | cons y t => exact ⟨_, _, rfl⟩
            have hTl := hS4.sh.lists
            have hTm := hS4.sh.marks
            have hyl : ys0.length = p.z.ks.length := by have := congrArg List.length hks; simp at this; omega
            have hml : mt0.length = p.z.ms.length := by have := congrArg List.length hms; simp at this; omega
            have hTl' : Tail Y2 L 48 (.slice (some ⟨g1, o1, none⟩) (p.z.ks.length + 1) c1) (p.z.ks.length + 1) (y0.d :: ys0.map Dat.d) := by
              have h5 : Tail Y2 L 48 (.slice (some ⟨g1, o1, none⟩) (p.z.ks.length + 1) c1) (p.z.ks ++ [(⟨x.d, x.zs.map fun _ => -1000 - (p.mark + 1)⟩ : Dat)]).length ((p.z.ks ++ [(⟨x.d, x.zs.map fun _ => -1000 - (p.mark + 1)⟩ : Dat)]).map Dat.d) := hTl
              rw [hks] at h5
              simpa [hyl] using h5
            have hTm' : Tail Y2 L 3 (.slice (some ⟨g3, o3, none⟩) (p.z.ms.length + 1) c3) (p.z.ms.length + 1) (I m0 :: mt0.map I) := by
              have h5 : Tail Y2 L 3 (.slice (some ⟨g3, o3, none⟩) (p.z.ms.length + 1) c3) (p.z.ms ++ [-1000 - (p.mark + 1)]).length ((p.z.ms ++ [-1000 - (p.mark + 1)]).map I) := hTm
              rw [hms] at h5
              simpa [hml] using h5
            obtain ⟨_, cc1, hcc1, hc1, _⟩ := tail_form hTl'
            cases hcc1
            obtain ⟨_, cc3, hcc3, hc3, _⟩ := tail_form hTm'
            cases hcc3
            have hms5 : p.z.ms.length = p.z.ks.length := HMS.out
            obtain ⟨_, _, eg1, hcut1⟩ := tail_cut hTl'
            cases eg1
            obtain ⟨_, _, eg3, hcut3⟩ := tail_cut hTm'
            cases eg3
            have hA := hS4.sh.cutLists (u := .slice (some ⟨g1, o1 + 1, none⟩) p.z.ks.length (c1 - 1)) (by
              show Tail Y2 L 48 _ (p.z.ks ++ [(⟨x.d, x.zs.map fun _ => -1000 - (p.mark + 1)⟩ : Dat)]).tail.length ((p.z.ks ++ [(⟨x.d, x.zs.map fun _ => -1000 - (p.mark + 1)⟩ : Dat)]).tail.map Dat.d)
              rw [hks]
              simpa [hyl] using hcut1) rfl
            have hK5 := hS4.put (u := .slice none 0 0) (Chg.refl _ Y2) (fun k e => by cases e) hA.1 (fun k hk => Or.inl (hA.2 k hk)) 6 (.slice (some ⟨g1, o1 + 1, none⟩) p.z.ks.length (c1 - 1)) rfl
            have hM5 : Tail (Y2.setCell ⟨a.pb, 6, none⟩ (.slice (some ⟨g1, o1 + 1, none⟩) p.z.ks.length (c1 - 1))) L 3 (.slice (some ⟨g3, o3 + 1, none⟩) p.z.ms.length (c3 - 1)) p.z.ms.length (mt0.map I) := tail_same hcut3 (fun g e => (Stq.set a.pb 6 _ Y2).block g (tail_lt hcut3 g e).2 (fun e2 => hS4.pbn ⟨.slice (some ⟨g3, o3, none⟩) (p.z.ms.length + 1) c3, by simp [ZS.vals, toMarks, toLists, setFl], e2 ▸ e⟩))
            have hB := hK5.sh.cutMarks (u := .slice (some ⟨g3, o3 + 1, none⟩) p.z.ms.length (c3 - 1)) (by
              show Tail _ L 3 _ (p.z.ms ++ [-1000 - (p.mark + 1)]).tail.length ((p.z.ms ++ [-1000 - (p.mark + 1)]).tail.map I)
              rw [hms]
              simpa [hml] using hM5) rfl
            have hK6 := hK5.put (u := .slice none 0 0) (Chg.refl _ _) (fun k e => by cases e) hB.1 hB.2 7 (.slice (some ⟨g3, o3 + 1, none⟩) p.z.ms.length (c3 - 1)) rfl
            have j7 : (Y2.setCell ⟨a.pb, 6, none⟩ (.slice (some ⟨g1, o1 + 1, none⟩) p.z.ks.length (c1 - 1))).cell? ⟨a.pb, 7, none⟩ = some (.slice (some ⟨g3, o3, none⟩) (p.z.ms.length + 1) c3) := hK5.c7
            have l7 := hK5.fz 7
            have hc1' : 1 < c1 := by omega
            have hc3' : 1 < c3 := by omega
            have hc1i : (1 : Int) ≤ (c1 : Int) := by omega
            have HK6 : Hid _ := hK6
            clear hS4 hTl hTm hTl' hTm' hcut1 hcut3 hA hK5 hM5 hB hK6 hks hms hyl hml hms5
            go_wp2_with fail
            go_ret
            refine ⟨?_, ⟨_, HK6.out, HF.out.pushCut HFL.out, rfl, by simp [cutMarks, cutLists, toMarks, toLists, setFl]⟩⟩
            simp
          · go_wp2_with fail
            go_ret
            refine ⟨?_, ⟨_, HK4.out, HF.out.push HFL.out (by omega), rfl, by simp [toMarks, toLists, setFl]⟩⟩
            simp
/-- keep: an answer is kept. -/
theorem keep_any {L : Nat} {a : PA} {p : PS} {x : Dat} (w : World) (hK : KSt L a p p.z p.mark w w) (hf : p.z.fl = [x]) (hF : ZFull p.z) (hm : 0 ≤ p.mark ∧ p.mark ≤ 3000) (hl : p.z.ls.length ≤ 3000) :
    Calls Tryd.prog 46 #[.pointer (some ⟨a.pb, 0, none⟩), x.d] w fun r w' => r = .returned (.bool true) ∧ KPost L a p w w' := by
  by_cases h3 : (p.mark + 1) % 3 = 0
  · exact keepB_any w hK hf hF hm h3
  · exact keepA_any w hK hf hF hm hl h3
end Go.Proofs.YtkdndfdofhnagaaDoor
