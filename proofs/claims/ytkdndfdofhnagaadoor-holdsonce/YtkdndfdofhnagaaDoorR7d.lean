import Derived.Test.YtkdndfdofhnagaaDoorR7c
namespace Go.Proofs.YtkdndfdofhnagaaDoor
open Go.RowKit Go.PlainAid
set_option linter.unusedVariables false
set_option linter.unusedSimpArgs false
set_option maxRecDepth 100000 in
theorem rcommit_any {base rb qb : Nat} {v : Value} {b : BS} {s : LS} (w : World) (hB : RBk base rb v b w) (hk : b.Ok) (h : Blk w qb s.cs 89) (ho : s.Ok) (hbase : base ≤ w.heap.size) (n : Int) :
    Calls Tryd.prog 60 #[.pointer (some ⟨rb, 0, none⟩), .pointer (some ⟨qb, 0, none⟩), .int .i64 n] w fun r w' => r = .returned (.tuple #[.int .i64 (b.eamt s n), .int .i64 (b.ecode s n)]) ∧ RPost base rb qb v (b.enext s n) (b.elnext s 1 n) w w' := by
  have hc := rend_any w hB hk h ho hbase n 5 rfl
  rw [show toOf 5 = 1 from rfl] at hc
  clear hB h ho hk
  go_enter Tryd.func60, Tryd.ntmps60
  go_wp2_with fail
  refine hc.mono ?_
  rintro e w1 ⟨rfl, h1⟩
  go_wp2_with fail
  go_ret2
  exact ⟨rfl, h1⟩
set_option maxRecDepth 100000 in
theorem rrelease_any {base rb qb : Nat} {v : Value} {b : BS} {s : LS} (w : World) (hB : RBk base rb v b w) (hk : b.Ok) (h : Blk w qb s.cs 89) (ho : s.Ok) (hbase : base ≤ w.heap.size) (n : Int) :
    Calls Tryd.prog 61 #[.pointer (some ⟨rb, 0, none⟩), .pointer (some ⟨qb, 0, none⟩), .int .i64 n] w fun r w' => r = .returned (.tuple #[.int .i64 (b.eamt s n), .int .i64 (b.ecode s n)]) ∧ RPost base rb qb v (b.enext s n) (b.elnext s 0 n) w w' := by
  have hc := rend_any w hB hk h ho hbase n 4 rfl
  rw [show toOf 4 = 0 from rfl] at hc
  clear hB h ho hk
  go_enter Tryd.func61, Tryd.ntmps61
  go_wp2_with fail
  refine hc.mono ?_
  rintro e w1 ⟨rfl, h1⟩
  go_wp2_with fail
  go_ret2
  exact ⟨rfl, h1⟩
structure RxR (base rb qb : Nat) (v : Value) (b : BS) (s : LS) (now : Int) (w wr : World) (i : Nat) (out lf : Value) : Prop where
  bk : RBk base rb v b wr
  led : Blk wr qb (xrun now s (b.L.take i)).s.cs 89
  out : wr.ownsRow w.heap.size 3 1 out (xrun now s (b.L.take i)).told.length ((numsOf b.me (xrun now s (b.L.take i)).told).map I)
  lf : wr.ownsRow w.heap.size 104 3 lf (xrun now s (b.L.take i)).left.length (flatH b.me (xrun now s (b.L.take i)).left)
  chg : Chg (fun k => k = qb) w wr
  old : ∀ k, v.ownBlock = some k → k < w.heap.size
section
variable {base rb qb : Nat} {v : Value} {b : BS} {s : LS} {now : Int} {w wr w' w4 : World} {i : Nat} {out lf v' : Value}
theorem RxR.nq (h : RxR base rb qb v b s now w wr i out lf) : out.ownBlock ≠ some qb ∧ lf.ownBlock ≠ some qb ∧ v.ownBlock ≠ some qb ∧ qb ≠ rb ∧ out.ownBlock ≠ some rb ∧ lf.ownBlock ≠ some rb := by
  refine ⟨fun e => ?_, fun e => ?_, fun e => ?_, h.led.ne_t h.bk.blk (by decide), fun e => ?_, fun e => ?_⟩
  · obtain ⟨cur, h1⟩ := ownsRow_type h.out e; exact Blk.ne_t h1 h.led (by decide) rfl
  · obtain ⟨cur, h1⟩ := ownsRow_type h.lf e; exact Blk.ne_t h1 h.led (by decide) rfl
  · obtain ⟨cur, h1⟩ := ownsRow_type h.bk.row e; exact Blk.ne_t h1 h.led (by decide) rfl
  · obtain ⟨cur, h1⟩ := ownsRow_type h.out e; exact Blk.ne_t h1 h.bk.blk (by decide) rfl
  · obtain ⟨cur, h1⟩ := ownsRow_type h.lf e; exact Blk.ne_t h1 h.bk.blk (by decide) rfl
theorem RxR.below (h : RxR base rb qb v b s now w wr i out lf) (hb : Below wr.heap.size wr w') : RxR base rb qb v b s now w w' i out lf :=
  ⟨h.bk.below hb, h.led.below hb h.led.lt, ownsRow_same h.out (fun g hg => hb.block g (ownsRow_lt h.out hg).2), ownsRow_same h.lf (fun g hg => hb.block g (ownsRow_lt h.lf hg).2), h.chg.trans (Chg.ofBelow (fun _ => False) hb) (by simp), h.old⟩
/-- The ledger has answered, and stands at t. -/
theorem RxR.turned (h : RxR base rb qb v b s now w wr i out lf) (hst : Stq qb wr w') : RBk base rb v b w' ∧ w'.ownsRow w.heap.size 3 1 out (xrun now s (b.L.take i)).told.length ((numsOf b.me (xrun now s (b.L.take i)).told).map I) ∧ w'.ownsRow w.heap.size 104 3 lf (xrun now s (b.L.take i)).left.length (flatH b.me (xrun now s (b.L.take i)).left) ∧ Chg (fun k => k = qb) w w' := by
  obtain ⟨n1, n2, n3, n4, n5, n6⟩ := h.nq
  exact ⟨h.bk.keep (Chg.ofStq hst) (fun e => n4 e.symm) (fun k e1 e2 => n3 (e2 ▸ e1)), ownsRow_same h.out (fun g hg => hst.block g (ownsRow_lt h.out hg).2 (fun e => n1 (e ▸ hg))), ownsRow_same h.lf (fun g hg => hst.block g (ownsRow_lt h.lf hg).2 (fun e => n2 (e ▸ hg))), h.chg.trans (Chg.ofStq hst) (fun _ _ e => e)⟩
/-- The hold stays. -/
theorem RxR.stay {h : Hd} (hE : RxR base rb qb v b s now w wr i out lf) (hi : b.L[i]? = some h) (hx : xhit now (xrun now s (b.L.take i)) h = false) (hg : Grew wr w4 lf v') (ho : w4.ownsRow w.heap.size 104 3 v' ((xrun now s (b.L.take i)).left.length + 1) (flatH b.me ((xrun now s (b.L.take i)).left ++ [h]))) : RxR base rb qb v b s now w w4 (i + 1) out v' := by
  obtain ⟨n1, n2, n3, n4, n5, n6⟩ := hE.nq
  have e1 : (xrun now s (b.L.take (i + 1))).s = (xrun now s (b.L.take i)).s := by simp [xrun_take hi, xstep, hx]
  have e2 : (xrun now s (b.L.take (i + 1))).told = (xrun now s (b.L.take i)).told := by simp [xrun_take hi, xstep, hx]
  have e3 : (xrun now s (b.L.take (i + 1))).left = (xrun now s (b.L.take i)).left ++ [h] := by simp [xrun_take hi, xstep, hx]
  have hdis : ∀ g, out.ownBlock = some g → ¬ lf.ownBlock = some g := fun g h1 h2 => by
    obtain ⟨c1, h1⟩ := ownsRow_type hE.out h1
    obtain ⟨c2, h2⟩ := ownsRow_type hE.lf h2
    exact Blk.ne_t h1 h2 (by decide) rfl
  refine ⟨hE.bk.keep hg.chg n6 (fun k e1 e2 => ?_), by rw [e1]; exact hg.chg.blk hE.led n2, by rw [e2]; exact ownsRow_same hE.out (fun g hg' => hg.chg.block g (ownsRow_lt hE.out hg').2 (hdis g hg')), by rw [e3]; simpa using ho, hE.chg.trans hg.chg (fun j hj e => ?_), hE.old⟩
  · have h1 := (ownsRow_lt hE.lf e2).1
    have h2 := hE.old k e1
    omega
  · have := (ownsRow_lt hE.lf e).1
    omega
/-- The hold is told. -/
theorem RxR.tell {h : Hd} (hE : RxR base rb qb v b s now w wr i out lf) (hi : b.L[i]? = some h) (hx : xhit now (xrun now s (b.L.take i)) h = true) (hst : Stq qb wr w') (hl : Blk w' qb ((xrun now s (b.L.take i)).s.tnext 2 0 h.am).cs 89) (hg : Grew w' w4 out v') (ho : w4.ownsRow w.heap.size 3 1 v' ((xrun now s (b.L.take i)).told.length + 1) ((numsOf b.me (xrun now s (b.L.take i)).told ++ [h.k * 16 + b.me]).map I)) : RxR base rb qb v b s now w w4 (i + 1) v' lf := by
  obtain ⟨n1, n2, n3, n4, n5, n6⟩ := hE.nq
  obtain ⟨t1, t2, t3, t4⟩ := hE.turned hst
  have e1 : (xrun now s (b.L.take (i + 1))).s = (xrun now s (b.L.take i)).s.tnext 2 0 h.am := by simp [xrun_take hi, xstep, hx]
  have e2 : (xrun now s (b.L.take (i + 1))).told = (xrun now s (b.L.take i)).told ++ [h] := by simp [xrun_take hi, xstep, hx]
  have e3 : (xrun now s (b.L.take (i + 1))).left = (xrun now s (b.L.take i)).left := by simp [xrun_take hi, xstep, hx]
  have hdis : ∀ g, lf.ownBlock = some g → ¬ out.ownBlock = some g := fun g h1 h2 => by
    obtain ⟨c1, h1⟩ := ownsRow_type t3 h1
    obtain ⟨c2, h2⟩ := ownsRow_type t2 h2
    exact Blk.ne_t h1 h2 (by decide) rfl
  refine ⟨t1.keep hg.chg n5 (fun k e1 e2 => ?_), by rw [e1]; exact hg.chg.blk hl n1, by rw [e2]; simpa [numsOf] using ho, by rw [e3]; exact ownsRow_same t3 (fun g hg' => hg.chg.block g (ownsRow_lt t3 hg').2 (hdis g hg')), t4.trans hg.chg (fun j hj e => ?_), hE.old⟩
  · have h1 := (ownsRow_lt t2 e2).1
    have h2 := hE.old k e1
    omega
  · have := (ownsRow_lt t2 e).1
    omega
end
def RxE (base rb qb : Nat) (v : Value) (b : BS) (s : LS) (now : Int) (w wr : World) (i : Nat) (out lf : Value) : Prop := RxR base rb qb v b s now w wr i out lf
set_option maxRecDepth 100000 in
set_option maxHeartbeats 1600000 in
theorem rexpire_any {base rb qb : Nat} {v : Value} {b : BS} {s : LS} (w : World) (hB : RBk base rb v b w) (hk : b.Ok) (h : Blk w qb s.cs 89) (ho : s.Ok) (hbase : base ≤ w.heap.size) (now : Int) :
    Calls Tryd.prog 45 #[.pointer (some ⟨rb, 0, none⟩), .pointer (some ⟨qb, 0, none⟩), .int .i64 now] w fun r w' => ∃ u, r = .returned u ∧ w'.ownsRow w.heap.size 3 1 u (xrun now s b.L).told.length ((numsOf b.me (xrun now s b.L).told).map I) ∧ RPost base rb qb v { b with L := (xrun now s b.L).left } (xrun now s b.L).s w w' := by
  have H0 : Hid _ := (⟨hB, h, World.ownsRow_nil _ _ _ _, World.ownsRow_nil _ _ _ _, Chg.refl _ _, fun k e => (ownsRow_lt hB.row e).2⟩ : RxR base rb qb v b s now w w 0 (.slice none 0 0) (.slice none 0 0))
  have hle : b.L.length ≤ 16 := by have := hk.len; have := hk.r1; omega
  obtain ⟨ao, cap, hv, _, _, _⟩ := own_read hB.row
  have HO : Hid _ := ho
  clear hB h ho hk
  go_enter Tryd.func45, Tryd.ntmps45
  go_wp2_with fail
  go_loopw [7, 8, 9] (fun out lf j wr => ∃ i : Nat, j = .int .i64 i ∧ i ≤ b.L.length ∧ RxE base rb qb v b s now w wr i out lf) (fun _ _ j _ => b.L.length - (intOf j).toNat)
  case atStart => exact ⟨0, rfl, Nat.zero_le _, H0.out⟩
  case round =>
    obtain ⟨i, rfl, hi, hE⟩ := hrel
    unfold RxE at hE
    have c3 := hE.bk.c3
    rw [hv] at c3
    by_cases hlt : i < b.L.length
    · obtain ⟨x, hx⟩ : ∃ x, b.L[i]? = some x := ⟨b.L[i]'hlt, List.getElem?_eq_getElem _⟩
      have hrow := hE.bk.row
      rw [hv] at hrow
      obtain ⟨ao2, cap2, hv2, hj1, hj2, hcell⟩ := own_read hrow
      cases hv2
      obtain ⟨g, rfl, hj3, hj4, hcc⟩ := hcell (by omega)
      obtain ⟨g0, g1, g2⟩ := flatH_get b.me b.L i x hx
      have e0 : wr.cell? ⟨g, i * 3, none⟩ = some (.int .i64 (x.k * 16 + b.me)) := hcc _ _ g0
      have e1 : wr.cell? ⟨g, i * 3 + 1, none⟩ = some (.int .i64 x.am) := hcc _ _ g1
      have e2 : wr.cell? ⟨g, i * 3 + 2, none⟩ = some (.int .i64 x.du) := hcc _ _ g2
      have hgr : Below wr.heap.size wr (wr.alloc (.cells #[.int .i64 (x.k * 16 + b.me), .int .i64 x.am, .int .i64 x.du] 104)) := (Below.refl _ _).alloc (Nat.le_refl _) _
      have hP : Blk (wr.alloc (.cells #[.int .i64 (x.k * 16 + b.me), .int .i64 x.am, .int .i64 x.du] 104)) wr.heap.size #[.int .i64 (x.k * 16 + b.me), .int .i64 x.am, .int .i64 x.du] 104 := heap_alloc_new wr _
      have hE1 := hE.below hgr
      have hws := hE1.chg.size
      have hlx := (xrun_sub now s (b.L.take i)).length_le
      have htl := xrun_len now s (b.L.take i)
      have hti : (b.L.take i).length ≤ b.L.length := by rw [List.length_take]; omega
      have hD1 : (xrun now s (b.L.take i)).left.length + 1 ≤ 100000 := by omega
      have hD2 : (xrun now s (b.L.take i)).told.length + 1 ≤ 100000 := by omega
      have HX : Hid _ := hx
      have HE1 : Hid _ := hE1
      have HP : Hid _ := hP
      have HWS : Hid _ := hws
      clear hrow hj1 hj2 hj3 hj4 hcell hcc g0 g1 g2 hgr hE hx hlx htl hti hP hE1 hws
      by_cases hdue : now < x.du
      · have hH : xhit now (xrun now s (b.L.take i)) x = false := by simp [xhit]; omega
        have HH : Hid _ := hH
        clear hH
        go_wp2_with (at_builtin; refine Mk.out ?_)
        refine Mk.mk ?_
        refine wpList_appH rfl _ _ rfl w.heap.size _ u8 b.me _ rfl HE1.out.lf x rfl (by simp) hD1 HWS.out ?_
        intro v' w4 ho4 hg4
        have HF : Hid _ := HE1.out.stay HX.out HH.out hg4 ho4
        clear ho4 hg4
        go_wp2_with fail
        go_roundw
        case rel => exact ⟨i + 1, by go_num, by omega, HF.out⟩
        case measure => simp [intOf]; omega
      · have hdue' : x.du ≤ now := by omega
        have hqt := rTurn_any (s := (xrun now s (b.L.take i)).s) _ HE1.out.led (xrun_ok now s _ HO.out) 4 x.am
        rw [show fromOf 4 = 2 from rfl, show toOf 4 = 0 from rfl] at hqt
        by_cases hc : (xrun now s (b.L.take i)).s.tcode 2 x.am = 0
        · have HH : Hid _ := (show xhit now (xrun now s (b.L.take i)) x = true from by simp [xhit, hdue', hc])
          rw [hc] at hqt
          have HQ : Hid _ := hqt
          clear hqt hc
          go_wp2_with fail
          refine Calls.mono HQ.out ?_
          rintro e w2 ⟨rfl, hl2, hst2⟩
          have hP2 := hst2.blk (show Blk _ wr.heap.size _ 104 from HP.out) (Blk.ne_t (show Blk _ wr.heap.size _ 104 from HP.out) HE1.out.led (by decide))
          have p0 : w2.cell? ⟨wr.heap.size, 0, none⟩ = some (.int .i64 (x.k * 16 + b.me)) := hP2.cell 0
          obtain ⟨t1, t2, t3, t4⟩ := HE1.out.turned hst2
          have hbs := t4.size
          have HT2 : Hid _ := t2
          have HL2 : Hid _ := hl2
          have HS2 : Hid _ := hst2
          clear hl2 hst2 hP2 t1 t2 t3 t4
          go_wp2_with (at_builtin; refine Mk.out ?_)
          refine Mk.mk ?_
          refine wpList_appI rfl _ _ rfl w.heap.size _ u7 _ rfl HT2.out (x.k * 16 + b.me) rfl (by simp) hD2 hbs ?_
          intro v' w4 ho4 hg4 _
          have HF : Hid _ := HE1.out.tell HX.out HH.out HS2.out HL2.out hg4 ho4
          clear ho4 hg4
          go_wp2_with fail
          go_roundw
          case rel => exact ⟨i + 1, by go_num, by omega, HF.out⟩
          case measure => simp [intOf]; omega
        · have hcf : ((xrun now s (b.L.take i)).s.tcode 2 x.am == 0) = false := by simpa using hc
          have HH : Hid _ := (show xhit now (xrun now s (b.L.take i)) x = false from by simp [xhit, hcf])
          rw [show (xrun now s (b.L.take i)).s.tnext 2 0 x.am = (xrun now s (b.L.take i)).s from by simp [LS.tnext, hc]] at hqt
          have HQ : Hid _ := hqt
          clear hqt hcf
          generalize (xrun now s (b.L.take i)).s.tcode 2 x.am = cd at *
          go_wp2_with fail
          refine Calls.mono HQ.out ?_
          rintro e w2 ⟨rfl, hl2, hst2⟩
          have hP2 := hst2.blk (show Blk _ wr.heap.size _ 104 from HP.out) (Blk.ne_t (show Blk _ wr.heap.size _ 104 from HP.out) HE1.out.led (by decide))
          have p0 : w2.cell? ⟨wr.heap.size, 0, none⟩ = some (.int .i64 (x.k * 16 + b.me)) := hP2.cell 0
          have p1 : w2.cell? ⟨wr.heap.size, 1, none⟩ = some (.int .i64 x.am) := hP2.cell 1
          have p2 : w2.cell? ⟨wr.heap.size, 2, none⟩ = some (.int .i64 x.du) := hP2.cell 2
          obtain ⟨t1, t2, t3, t4⟩ := HE1.out.turned hst2
          have HE2 : Hid _ := (⟨t1, hl2, t2, t3, t4, HE1.out.old⟩ : RxR base rb qb v b s now w w2 i u7 u8)
          have hbs := t4.size
          clear hl2 hst2 hP2 t1 t2 t3 t4
          go_wp2_with (at_builtin; refine Mk.out ?_)
          refine Mk.mk ?_
          refine wpList_appH rfl _ _ rfl w.heap.size _ u8 b.me _ rfl HE2.out.lf x rfl (by simp) hD1 hbs ?_
          intro v' w4 ho4 hg4
          have HF : Hid _ := HE2.out.stay HX.out HH.out hg4 ho4
          clear ho4 hg4
          go_wp2_with fail
          go_roundw
          case rel => exact ⟨i + 1, by go_num, by omega, HF.out⟩
          case measure => simp [intOf]; omega
    · have hii : b.L.length ≤ i := by omega
      have e1 := xrun_all (now := now) (s := s) hii
      have hB4 := hE.bk.blk
      have z3 := hB4.frozen 3
      have hst5 := Stq.set rb 3 u8 wr
      obtain ⟨n1, n2, n3, n4, n5, n6⟩ := hE.nq
      obtain ⟨ao8, cap8, hv8, _⟩ := own_slice hE.lf
      have HF : Hid _ := (show (wr.setCell ⟨rb, 3, none⟩ u8).ownsRow w.heap.size 3 1 u7 (xrun now s b.L).told.length ((numsOf b.me (xrun now s b.L).told).map I) ∧ RPost base rb qb v { b with L := (xrun now s b.L).left } (xrun now s b.L).s w (wr.setCell ⟨rb, 3, none⟩ u8) from by
        have o1 := hE.out
        have o2 := hE.lf
        have o3 := hE.led
        rw [e1] at o1 o2 o3
        refine ⟨ownsRow_same o1 (fun g hg => hst5.block g (ownsRow_lt o1 hg).2 (fun e => n5 (e ▸ hg))), ⟨u8, ⟨hB4.set 3 u8, ?_⟩, fun j e => Or.inr (ownsRow_lt o2 e).1⟩, hst5.blk o3 n4, ?_⟩
        · exact ownsRow_mono (ownsRow_same o2 (fun g hg => hst5.block g (ownsRow_lt o2 hg).2 (fun e => n6 (e ▸ hg)))) hbase
        · exact (hE.chg.mono (B := fun k => k = rb ∨ k = qb ∨ v.ownBlock = some k) (fun j _ e => Or.inr (Or.inl e))).trans (Chg.ofStq hst5) (fun j _ e => Or.inl e))
      clear hE e1 hB4 hst5 n1 n2 n3 n4 n5 n6
      subst hv8
      go_wp2_with fail
      go_ret
      exact ⟨_, rfl, HF.out⟩
end Go.Proofs.YtkdndfdofhnagaaDoor
