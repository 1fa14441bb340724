import Derived.Test.YtgajmiibkakobaaMe3
import Derived.Deep.Cut
namespace Go.Proofs.Ytgajmiibkakobaa
open Go.RowKit Go.PlainAid Go.MapKept
set_option linter.unusedVariables false
set_option linter.unusedSimpArgs false
set_option maxRecDepth 100000 in
set_option maxHeartbeats 3200000 in
theorem take_any {hb : Nat} {c : Ct} (v a : Int) (w : World) (hI : HI w hb c.H) (hhb : c.hb = some hb) (h3 : IntKind.i64.wrap (c.val - a) = c.val - a) :
    Calls Try.prog 53 #[ctV c, .int .i64 v, .int .i64 a] w (PlPost (some hb) c.nm (takeO v a c) w) := by
  have hcv : ctV c = .agg #[.string ⟨c.nm.toArray⟩, .int .i64 c.lim, .int .i64 c.val, .int .i64 c.held, .map (some hb)] := by simp only [ctV, Ct.cs, hhb]
  have hcs : c.cs = #[.string ⟨c.nm.toArray⟩, .int .i64 c.lim, .int .i64 c.val, .int .i64 c.held, .map (some hb)] := by simp only [Ct.cs, hhb]
  rw [hcv]
  obtain ⟨cb, hcb⟩ : ∃ b, b = w.heap.size := ⟨_, rfl⟩
  obtain ⟨rb, hrb⟩ : ∃ b, b = w.heap.size + 1 := ⟨_, rfl⟩
  obtain ⟨X, hX⟩ : ∃ X, X = ((w.alloc (.cells #[.string ⟨c.nm.toArray⟩, .int .i64 c.lim, .int .i64 c.val, .int .i64 c.held, .map (some hb)] 67)).alloc (.cells #[.int .i64 0, .int .i64 0, .nilFunc] 62)) := ⟨_, rfl⟩
  have hbX : Below w.heap.size w X := by rw [hX]; exact (((Below.refl _ _).alloc (by first | exact Nat.le_refl _ | (simp; try omega)) _).alloc (by first | exact Nat.le_refl _ | (simp; try omega)) _)
  have Bcb : Hid (Blk X cb #[.string ⟨c.nm.toArray⟩, .int .i64 c.lim, .int .i64 c.val, .int .i64 c.held, .map (some hb)] 67) := show Blk X cb #[.string ⟨c.nm.toArray⟩, .int .i64 c.lim, .int .i64 c.val, .int .i64 c.held, .map (some hb)] 67 from by rw [hX]; exact (blk_alloc (show Blk (w.alloc (.cells #[.string ⟨c.nm.toArray⟩, .int .i64 c.lim, .int .i64 c.val, .int .i64 c.held, .map (some hb)] 67)) cb #[.string ⟨c.nm.toArray⟩, .int .i64 c.lim, .int .i64 c.val, .int .i64 c.held, .map (some hb)] 67 from by rw [hcb]; have h := heap_alloc_new w (.cells #[.string ⟨c.nm.toArray⟩, .int .i64 c.lim, .int .i64 c.val, .int .i64 c.held, .map (some hb)] 67); exact h) _)
  have Brb : Hid (Blk X rb #[.int .i64 0, .int .i64 0, .nilFunc] 62) := show Blk X rb #[.int .i64 0, .int .i64 0, .nilFunc] 62 from by rw [hX]; exact (show Blk ((w.alloc (.cells #[.string ⟨c.nm.toArray⟩, .int .i64 c.lim, .int .i64 c.val, .int .i64 c.held, .map (some hb)] 67)).alloc (.cells #[.int .i64 0, .int .i64 0, .nilFunc] 62)) rb #[.int .i64 0, .int .i64 0, .nilFunc] 62 from by rw [hrb]; have h := heap_alloc_new (w.alloc (.cells #[.string ⟨c.nm.toArray⟩, .int .i64 c.lim, .int .i64 c.val, .int .i64 c.held, .map (some hb)] 67)) (.cells #[.int .i64 0, .int .i64 0, .nilFunc] 62); simp only [World.size_alloc] at h; exact h)
  have HBX : Hid (Below w.heap.size w X) := hbX
  have HLB : Hid (w.heap.size ≤ cb ∧ w.heap.size ≤ rb) := ⟨by omega, by omega⟩
  have HLcb : Hid (w.heap.size ≤ cb) := show w.heap.size ≤ cb from by omega
  have HLrb : Hid (w.heap.size ≤ rb) := show w.heap.size ≤ rb from by omega
  have HIX : Hid (HI X hb c.H) := hI.same (hbX.block _ hI.lt)
  have hcv2 := hcv
  clear hbX hI hcv
  by_cases hv : c.val = v
  · by_cases hq : c.val < a
    · have HO : Hid (takeO v a c = ((0, 60), (c.lim, c.val, c.held, c.H))) := show _ = _ from by unfold takeO; rw [if_neg (fun h => h hv), if_pos hq]
      have HD : Hid (decO a c = ((0, 60), (c.lim, c.val, c.held, c.H))) := show _ = _ from by unfold decO; rw [if_pos hq]
      have hvb : (c.val == v) = true := by simpa using hv
      clear hq hv
      have HDE : Hid (Calls Try.prog 50 #[ctV c, .int .i64 a] X (PlPost (some hb) c.nm (decO a c) X)) := dec_any a X HIX.out hhb h3
      rw [hcv2] at HDE
      go_enter Try.func53, Try.ntmps53
      go_upto_region 1 with fail
      rw [← hX, ← hrb, ← hcb]
      clear hX hcb hrb
      have x0 : X.cell? ⟨cb, 0, none⟩ = some (.string ⟨c.nm.toArray⟩) := Bcb.out.cell 0
      have x1 : X.cell? ⟨cb, 1, none⟩ = some (.int .i64 c.lim) := Bcb.out.cell 1
      have x2 : X.cell? ⟨cb, 2, none⟩ = some (.int .i64 c.val) := Bcb.out.cell 2
      have x3 : X.cell? ⟨cb, 3, none⟩ = some (.int .i64 c.held) := Bcb.out.cell 3
      have x4 : X.cell? ⟨cb, 4, none⟩ = some (.map (some hb)) := Bcb.out.cell 4
      go_wp2_with fail
      refine Calls.mono HDE.out ?_
      rintro e9 w1 ⟨fv, rfl, hone, hb1, hdo⟩
      rw [HD.out] at hdo ⊢
      have hst : ∀ (A : Addr) (m : Mode) (W : World), (store A fv m).run Try.prog W = stored Try.prog W A fv m := fun A m W => run_store _ _ _ _ _ hone
      have hR1 : Blk w1 rb #[.int .i64 0, .int .i64 0, .nilFunc] 62 := Brb.out.below hb1 Brb.out.lt
      obtain ⟨db, hdb⟩ : ∃ b, b = w1.heap.size := ⟨_, rfl⟩
      obtain ⟨V, hV⟩ : ∃ V, V = w1.alloc (.cells #[.int .i64 0, .int .i64 60, fv] 62) := ⟨_, rfl⟩
      have hbV : Below w1.heap.size w1 V := by rw [hV]; exact (Below.refl _ _).alloc (Nat.le_refl _) _
      have Vd : Hid (Blk V db #[.int .i64 0, .int .i64 60, fv] 62) := show Blk V db #[.int .i64 0, .int .i64 60, fv] 62 from by rw [hV, hdb]; exact heap_alloc_new w1 _
      have VR : Hid (Blk V rb #[.int .i64 0, .int .i64 0, .nilFunc] 62) := hR1.below hbV hR1.lt
      have HBV : Hid (Below w1.heap.size w1 V) := hbV
      have HW1 : Hid (Below w.heap.size w w1) := HBX.out.trans (hb1.mono HBX.out.size)
      have HWV : Hid (Below w.heap.size w V) := HW1.out.trans (hbV.mono HW1.out.size)
      have hnd : rb ≠ db := by have := hR1.lt; omega
      have HDO : Hid _ := hdo
      have HXS : Hid (w.heap.size ≤ X.heap.size) := HBX.out.size
      have HDL : Hid (w.heap.size ≤ db) := show w.heap.size ≤ db from by rw [hdb]; exact HW1.out.size
      have HDB : Hid (db = w1.heap.size) := hdb
      have HI1 : Hid (HI w1 hb c.H) := HIX.out.same (hb1.block _ HIX.out.lt)
      have HR1 : Hid (Blk w1 rb #[.int .i64 0, .int .i64 0, .nilFunc] 62) := hR1
      go_upto_region 4 with fail
      rw [← hV, ← hdb]
      clear hV hdb hbV hdo hb1 hR1 x0 x1 x2 x3 x4
      have v1 : V.cell? ⟨db, 1, none⟩ = some (.int .i64 60) := Vd.out.cell 1
      go_upto_region 6 with fail
      clear v1
      have d0 : V.cell? ⟨db, 0, none⟩ = some (.int .i64 0) := Vd.out.cell 0
      have d1 : V.cell? ⟨db, 1, none⟩ = some (.int .i64 60) := Vd.out.cell 1
      have d2 : V.cell? ⟨db, 2, none⟩ = some (fv) := Vd.out.cell 2
      have r0 : V.cell? ⟨rb, 0, none⟩ = some (.int .i64 0) := VR.out.cell 0
      have q0 : V.frozen? ⟨rb, 0, none⟩ = false := VR.out.frozen 0
      have r1 : V.cell? ⟨rb, 1, none⟩ = some (.int .i64 0) := VR.out.cell 1
      have q1 : V.frozen? ⟨rb, 1, none⟩ = false := VR.out.frozen 1
      have r2 : V.cell? ⟨rb, 2, none⟩ = some (.nilFunc) := VR.out.cell 2
      have q2 : V.frozen? ⟨rb, 2, none⟩ = false := VR.out.frozen 2
      obtain ⟨Z, hZ⟩ : ∃ Z, Z = (((V.setCell ⟨rb, 0, none⟩ (.int .i64 0)).setCell ⟨rb, 1, none⟩ (.int .i64 60)).setCell ⟨rb, 2, none⟩ (fv)) := ⟨_, rfl⟩
      have HZ : Hid (Blk Z rb #[.int .i64 0, .int .i64 60, fv] 62) := show Blk Z rb #[.int .i64 0, .int .i64 60, fv] 62 from by rw [hZ]; exact (Blk.set (Blk.set (Blk.set VR.out 0 (.int .i64 0)) 1 (.int .i64 60)) 2 (fv))
      have HCZ : Hid (Chg (fun b => b = rb) V Z) := show Chg (fun b => b = rb) V Z from by rw [hZ]; exact (((setCell_chg _ _ _ _).trans (setCell_chg _ _ _ _) (fun _ _ e => e)).trans (setCell_chg _ _ _ _) (fun _ _ e => e))
      have HBZ : Hid (Below w.heap.size w Z) := show Below w.heap.size w Z from by have h := HWV.out; exact h.trans (HCZ.out.below h.size (fun k e => by have := HLB.out.2; omega))
      go_wp2_with fail
      rw [← hZ]
      refine bodyPost_ret (results_cell_row Try.results53 _ _ rb 62 _ (0, 0) _ rfl HZ.out Try.underlying62 rfl (by kernel_rfl)) rfl ?_
      rw [HO.out]
      exact ⟨fv, rfl, hone, HBZ.out, fun h => absurd h (show ¬ (60 : Int) = 0 by decide)⟩
    · have HO : Hid (takeO v a c = ((v, 0), (c.lim, c.val - a, c.held, c.H))) := show _ = _ from by unfold takeO; rw [if_neg (fun h => h hv), if_neg hq]
      have HD : Hid (decO a c = ((0, 0), (c.lim, c.val - a, c.held, c.H))) := show _ = _ from by unfold decO; rw [if_neg hq]
      have hvb : (c.val == v) = true := by simpa using hv
      clear hq hv
      have HDE : Hid (Calls Try.prog 50 #[ctV c, .int .i64 a] X (PlPost (some hb) c.nm (decO a c) X)) := dec_any a X HIX.out hhb h3
      rw [hcv2] at HDE
      go_enter Try.func53, Try.ntmps53
      go_upto_region 1 with fail
      rw [← hX, ← hrb, ← hcb]
      clear hX hcb hrb
      have x0 : X.cell? ⟨cb, 0, none⟩ = some (.string ⟨c.nm.toArray⟩) := Bcb.out.cell 0
      have x1 : X.cell? ⟨cb, 1, none⟩ = some (.int .i64 c.lim) := Bcb.out.cell 1
      have x2 : X.cell? ⟨cb, 2, none⟩ = some (.int .i64 c.val) := Bcb.out.cell 2
      have x3 : X.cell? ⟨cb, 3, none⟩ = some (.int .i64 c.held) := Bcb.out.cell 3
      have x4 : X.cell? ⟨cb, 4, none⟩ = some (.map (some hb)) := Bcb.out.cell 4
      go_wp2_with fail
      refine Calls.mono HDE.out ?_
      rintro e9 w1 ⟨fv, rfl, hone, hb1, hdo⟩
      rw [HD.out] at hdo ⊢
      have hst : ∀ (A : Addr) (m : Mode) (W : World), (store A fv m).run Try.prog W = stored Try.prog W A fv m := fun A m W => run_store _ _ _ _ _ hone
      have hR1 : Blk w1 rb #[.int .i64 0, .int .i64 0, .nilFunc] 62 := Brb.out.below hb1 Brb.out.lt
      obtain ⟨db, hdb⟩ : ∃ b, b = w1.heap.size := ⟨_, rfl⟩
      obtain ⟨V, hV⟩ : ∃ V, V = w1.alloc (.cells #[.int .i64 0, .int .i64 0, fv] 62) := ⟨_, rfl⟩
      have hbV : Below w1.heap.size w1 V := by rw [hV]; exact (Below.refl _ _).alloc (Nat.le_refl _) _
      have Vd : Hid (Blk V db #[.int .i64 0, .int .i64 0, fv] 62) := show Blk V db #[.int .i64 0, .int .i64 0, fv] 62 from by rw [hV, hdb]; exact heap_alloc_new w1 _
      have VR : Hid (Blk V rb #[.int .i64 0, .int .i64 0, .nilFunc] 62) := hR1.below hbV hR1.lt
      have HBV : Hid (Below w1.heap.size w1 V) := hbV
      have HW1 : Hid (Below w.heap.size w w1) := HBX.out.trans (hb1.mono HBX.out.size)
      have HWV : Hid (Below w.heap.size w V) := HW1.out.trans (hbV.mono HW1.out.size)
      have hnd : rb ≠ db := by have := hR1.lt; omega
      have HDO : Hid _ := hdo
      have HXS : Hid (w.heap.size ≤ X.heap.size) := HBX.out.size
      have HDL : Hid (w.heap.size ≤ db) := show w.heap.size ≤ db from by rw [hdb]; exact HW1.out.size
      have HDB : Hid (db = w1.heap.size) := hdb
      have HI1 : Hid (HI w1 hb c.H) := HIX.out.same (hb1.block _ HIX.out.lt)
      have HR1 : Hid (Blk w1 rb #[.int .i64 0, .int .i64 0, .nilFunc] 62) := hR1
      go_upto_region 4 with fail
      rw [← hV, ← hdb]
      clear hV hdb hbV hdo hb1 hR1 x0 x1 x2 x3 x4
      have v1 : V.cell? ⟨db, 1, none⟩ = some (.int .i64 0) := Vd.out.cell 1
      obtain ⟨U, hU⟩ : ∃ U, U = V.setCell ⟨db, 0, none⟩ (.int .i64 v) := ⟨_, rfl⟩
      have hcU : Chg (fun b => b = db) V U := by rw [hU]; exact setCell_chg _ _ _ _
      have Ud : Hid (Blk U db #[.int .i64 v, .int .i64 0, fv] 62) := show Blk U db #[.int .i64 v, .int .i64 0, fv] 62 from by rw [hU]; exact Vd.out.set 0 _
      have UR : Hid (Blk U rb #[.int .i64 0, .int .i64 0, .nilFunc] 62) := hcU.blk VR.out hnd
      have HCU : Hid (Chg (fun b => b = db) V U) := hcU
      have v0 : V.cell? ⟨db, 0, none⟩ = some (.int .i64 0) := Vd.out.cell 0
      have vf : V.frozen? ⟨db, 0, none⟩ = false := Vd.out.frozen 0
      go_upto_region 6 with fail
      rw [← hU]
      clear hU hcU v0 vf v1
      have d0 : U.cell? ⟨db, 0, none⟩ = some (.int .i64 v) := Ud.out.cell 0
      have d1 : U.cell? ⟨db, 1, none⟩ = some (.int .i64 0) := Ud.out.cell 1
      have d2 : U.cell? ⟨db, 2, none⟩ = some (fv) := Ud.out.cell 2
      have r0 : U.cell? ⟨rb, 0, none⟩ = some (.int .i64 0) := UR.out.cell 0
      have q0 : U.frozen? ⟨rb, 0, none⟩ = false := UR.out.frozen 0
      have r1 : U.cell? ⟨rb, 1, none⟩ = some (.int .i64 0) := UR.out.cell 1
      have q1 : U.frozen? ⟨rb, 1, none⟩ = false := UR.out.frozen 1
      have r2 : U.cell? ⟨rb, 2, none⟩ = some (.nilFunc) := UR.out.cell 2
      have q2 : U.frozen? ⟨rb, 2, none⟩ = false := UR.out.frozen 2
      obtain ⟨Z, hZ⟩ : ∃ Z, Z = (((U.setCell ⟨rb, 0, none⟩ (.int .i64 v)).setCell ⟨rb, 1, none⟩ (.int .i64 0)).setCell ⟨rb, 2, none⟩ (fv)) := ⟨_, rfl⟩
      have HZ : Hid (Blk Z rb #[.int .i64 v, .int .i64 0, fv] 62) := show Blk Z rb #[.int .i64 v, .int .i64 0, fv] 62 from by rw [hZ]; exact (Blk.set (Blk.set (Blk.set UR.out 0 (.int .i64 v)) 1 (.int .i64 0)) 2 (fv))
      have HCZ : Hid (Chg (fun b => b = rb) U Z) := show Chg (fun b => b = rb) U Z from by rw [hZ]; exact (((setCell_chg _ _ _ _).trans (setCell_chg _ _ _ _) (fun _ _ e => e)).trans (setCell_chg _ _ _ _) (fun _ _ e => e))
      have HBZ : Hid (Below w.heap.size w Z) := show Below w.heap.size w Z from by have h := HWV.out.trans (HCU.out.below HWV.out.size (fun k e => by have := HDL.out; omega)); exact h.trans (HCZ.out.below h.size (fun k e => by have := HLB.out.2; omega))
      go_wp2_with fail
      rw [← hZ]
      refine bodyPost_ret (results_cell_row Try.results53 _ _ rb 62 _ (0, 0) _ rfl HZ.out Try.underlying62 rfl (by kernel_rfl)) rfl ?_
      rw [HO.out]
      refine ⟨fv, rfl, hone, HBZ.out, fun _ => ?_⟩
      have hD : Doer X.heap.size (some hb) c.nm c.lim (c.val - a) c.held c.H fv w1 := by first | exact HDO.out trivial | exact HDO.out rfl
      have hcc : Chg (fun k => k = db ∨ k = rb) w1 Z := ((Chg.ofBelow _ HBV.out).trans HCU.out (fun _ _ e => Or.inl e)).trans HCZ.out (fun _ _ e => Or.inr e)
      exact hD.later (hcc.mono (B := fun k => k = rb) (fun k hk e => e.elim (fun e => absurd hk (by have := HDB.out; omega)) id)) HXS.out (fun k hk e => by have := Brb.out.lt; omega) (fun k hk => by cases hk; exact ⟨(HI1.out).lt, fun e => HI1.out.ne_b HR1.out e.symm⟩)
  · have HO : Hid (takeO v a c = ((0, 110), (c.lim, c.val, c.held, c.H))) := show _ = _ from by unfold takeO; rw [if_pos hv]
    have hvb : (c.val == v) = false := by simpa using hv
    clear hv
    go_enter Try.func53, Try.ntmps53
    go_upto_region 1 with fail
    rw [← hX, ← hrb, ← hcb]
    clear hX hcb hrb
    have x0 : X.cell? ⟨cb, 0, none⟩ = some (.string ⟨c.nm.toArray⟩) := Bcb.out.cell 0
    have x1 : X.cell? ⟨cb, 1, none⟩ = some (.int .i64 c.lim) := Bcb.out.cell 1
    have x2 : X.cell? ⟨cb, 2, none⟩ = some (.int .i64 c.val) := Bcb.out.cell 2
    have x3 : X.cell? ⟨cb, 3, none⟩ = some (.int .i64 c.held) := Bcb.out.cell 3
    have x4 : X.cell? ⟨cb, 4, none⟩ = some (.map (some hb)) := Bcb.out.cell 4
    go_wp2_with fail
    refine Calls.mono (refused_any 110 X) ?_
    rintro e9 w1 ⟨rfl, hb1⟩
    have hR1 : Blk w1 rb #[.int .i64 0, .int .i64 0, .nilFunc] 62 := Brb.out.below hb1 Brb.out.lt
    have r0 : w1.cell? ⟨rb, 0, none⟩ = some (.int .i64 0) := hR1.cell 0
    have q0 : w1.frozen? ⟨rb, 0, none⟩ = false := hR1.frozen 0
    have r1 : w1.cell? ⟨rb, 1, none⟩ = some (.int .i64 0) := hR1.cell 1
    have q1 : w1.frozen? ⟨rb, 1, none⟩ = false := hR1.frozen 1
    have r2 : w1.cell? ⟨rb, 2, none⟩ = some (.nilFunc) := hR1.cell 2
    have q2 : w1.frozen? ⟨rb, 2, none⟩ = false := hR1.frozen 2
    obtain ⟨Z, hZ⟩ : ∃ Z, Z = (((w1.setCell ⟨rb, 0, none⟩ (.int .i64 0)).setCell ⟨rb, 1, none⟩ (.int .i64 110)).setCell ⟨rb, 2, none⟩ (.nilFunc)) := ⟨_, rfl⟩
    have HZ : Hid (Blk Z rb #[.int .i64 0, .int .i64 110, .nilFunc] 62) := show Blk Z rb #[.int .i64 0, .int .i64 110, .nilFunc] 62 from by rw [hZ]; exact (Blk.set (Blk.set (Blk.set hR1 0 (.int .i64 0)) 1 (.int .i64 110)) 2 (.nilFunc))
    have HCZ : Hid (Chg (fun b => b = rb) w1 Z) := show Chg (fun b => b = rb) w1 Z from by rw [hZ]; exact (((setCell_chg _ _ _ _).trans (setCell_chg _ _ _ _) (fun _ _ e => e)).trans (setCell_chg _ _ _ _) (fun _ _ e => e))
    have HBZ : Hid (Below w.heap.size w Z) := show Below w.heap.size w Z from by have h := HBX.out.trans (hb1.mono HBX.out.size); exact h.trans (HCZ.out.below h.size (fun k e => by have := HLB.out.2; omega))
    clear hb1 hR1
    go_wp2_with fail
    rw [← hZ]
    refine bodyPost_ret (results_cell_row Try.results53 _ _ rb 62 _ (0, 0) _ rfl HZ.out Try.underlying62 rfl (by kernel_rfl)) rfl ?_
    rw [HO.out]
    exact ⟨.nilFunc, rfl, rfl, HBZ.out, fun h => absurd h (show ¬ (110 : Int) = 0 by decide)⟩
end Go.Proofs.Ytgajmiibkakobaa
