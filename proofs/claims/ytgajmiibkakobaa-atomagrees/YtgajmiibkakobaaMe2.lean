import Derived.Test.YtgajmiibkakobaaMe1
import Derived.Deep.Cut
namespace Go.Proofs.Ytgajmiibkakobaa
open Go.RowKit Go.PlainAid Go.MapKept
set_option linter.unusedVariables false
set_option linter.unusedSimpArgs false
set_option maxRecDepth 100000 in
set_option maxHeartbeats 3200000 in
theorem hold_any {hb : Nat} {c : Ct} (a q : Int) (w : World) (hI : HI w hb c.H) (hhb : c.hb = some hb) (h3 : IntKind.i64.wrap (c.val - a) = c.val - a) (h4 : IntKind.i64.wrap (c.held + a) = c.held + a) :
    Calls Try.prog 51 #[ctV c, .int .i64 a, .int .i64 q] w (PlPost (some hb) c.nm (holdO a q c) w) := by
  have hcv : ctV c = .agg #[.string ⟨c.nm.toArray⟩, .int .i64 c.lim, .int .i64 c.val, .int .i64 c.held, .map (some hb)] := by simp only [ctV, Ct.cs, hhb]
  have hcs : c.cs = #[.string ⟨c.nm.toArray⟩, .int .i64 c.lim, .int .i64 c.val, .int .i64 c.held, .map (some hb)] := by simp only [Ct.cs, hhb]
  rw [hcv]
  obtain ⟨cb, hcb⟩ : ∃ b, b = w.heap.size := ⟨_, rfl⟩
  obtain ⟨ab, hab⟩ : ∃ b, b = w.heap.size + 1 := ⟨_, rfl⟩
  obtain ⟨qb, hqb⟩ : ∃ b, b = w.heap.size + 1 + 1 := ⟨_, rfl⟩
  obtain ⟨rb, hrb⟩ : ∃ b, b = w.heap.size + 1 + 1 + 1 := ⟨_, rfl⟩
  obtain ⟨X, hX⟩ : ∃ X, X = ((((w.alloc (.cells #[.string ⟨c.nm.toArray⟩, .int .i64 c.lim, .int .i64 c.val, .int .i64 c.held, .map (some hb)] 67)).alloc (.cells #[.int .i64 a] 3)).alloc (.cells #[.int .i64 q] 3)).alloc (.cells #[.int .i64 0, .int .i64 0, .nilFunc] 62)) := ⟨_, rfl⟩
  have hbX : Below w.heap.size w X := by rw [hX]; exact (((((Below.refl _ _).alloc (by first | exact Nat.le_refl _ | (simp; try omega)) _).alloc (by first | exact Nat.le_refl _ | (simp; try omega)) _).alloc (by first | exact Nat.le_refl _ | (simp; try omega)) _).alloc (by first | exact Nat.le_refl _ | (simp; try omega)) _)
  have Bcb : Hid (Blk X cb #[.string ⟨c.nm.toArray⟩, .int .i64 c.lim, .int .i64 c.val, .int .i64 c.held, .map (some hb)] 67) := show Blk X cb #[.string ⟨c.nm.toArray⟩, .int .i64 c.lim, .int .i64 c.val, .int .i64 c.held, .map (some hb)] 67 from by rw [hX]; exact (blk_alloc (blk_alloc (blk_alloc (show Blk (w.alloc (.cells #[.string ⟨c.nm.toArray⟩, .int .i64 c.lim, .int .i64 c.val, .int .i64 c.held, .map (some hb)] 67)) cb #[.string ⟨c.nm.toArray⟩, .int .i64 c.lim, .int .i64 c.val, .int .i64 c.held, .map (some hb)] 67 from by rw [hcb]; have h := heap_alloc_new w (.cells #[.string ⟨c.nm.toArray⟩, .int .i64 c.lim, .int .i64 c.val, .int .i64 c.held, .map (some hb)] 67); exact h) _) _) _)
  have Bab : Hid (Blk X ab #[.int .i64 a] 3) := show Blk X ab #[.int .i64 a] 3 from by rw [hX]; exact (blk_alloc (blk_alloc (show Blk ((w.alloc (.cells #[.string ⟨c.nm.toArray⟩, .int .i64 c.lim, .int .i64 c.val, .int .i64 c.held, .map (some hb)] 67)).alloc (.cells #[.int .i64 a] 3)) ab #[.int .i64 a] 3 from by rw [hab]; have h := heap_alloc_new (w.alloc (.cells #[.string ⟨c.nm.toArray⟩, .int .i64 c.lim, .int .i64 c.val, .int .i64 c.held, .map (some hb)] 67)) (.cells #[.int .i64 a] 3); simp only [World.size_alloc] at h; exact h) _) _)
  have Bqb : Hid (Blk X qb #[.int .i64 q] 3) := show Blk X qb #[.int .i64 q] 3 from by rw [hX]; exact (blk_alloc (show Blk (((w.alloc (.cells #[.string ⟨c.nm.toArray⟩, .int .i64 c.lim, .int .i64 c.val, .int .i64 c.held, .map (some hb)] 67)).alloc (.cells #[.int .i64 a] 3)).alloc (.cells #[.int .i64 q] 3)) qb #[.int .i64 q] 3 from by rw [hqb]; have h := heap_alloc_new ((w.alloc (.cells #[.string ⟨c.nm.toArray⟩, .int .i64 c.lim, .int .i64 c.val, .int .i64 c.held, .map (some hb)] 67)).alloc (.cells #[.int .i64 a] 3)) (.cells #[.int .i64 q] 3); simp only [World.size_alloc] at h; exact h) _)
  have Brb : Hid (Blk X rb #[.int .i64 0, .int .i64 0, .nilFunc] 62) := show Blk X rb #[.int .i64 0, .int .i64 0, .nilFunc] 62 from by rw [hX]; exact (show Blk ((((w.alloc (.cells #[.string ⟨c.nm.toArray⟩, .int .i64 c.lim, .int .i64 c.val, .int .i64 c.held, .map (some hb)] 67)).alloc (.cells #[.int .i64 a] 3)).alloc (.cells #[.int .i64 q] 3)).alloc (.cells #[.int .i64 0, .int .i64 0, .nilFunc] 62)) rb #[.int .i64 0, .int .i64 0, .nilFunc] 62 from by rw [hrb]; have h := heap_alloc_new (((w.alloc (.cells #[.string ⟨c.nm.toArray⟩, .int .i64 c.lim, .int .i64 c.val, .int .i64 c.held, .map (some hb)] 67)).alloc (.cells #[.int .i64 a] 3)).alloc (.cells #[.int .i64 q] 3)) (.cells #[.int .i64 0, .int .i64 0, .nilFunc] 62); simp only [World.size_alloc] at h; exact h)
  have HBX : Hid (Below w.heap.size w X) := hbX
  have HLB : Hid (w.heap.size ≤ cb ∧ w.heap.size ≤ rb) := ⟨by omega, by omega⟩
  have HLcb : Hid (w.heap.size ≤ cb) := show w.heap.size ≤ cb from by omega
  have HLab : Hid (w.heap.size ≤ ab) := show w.heap.size ≤ ab from by omega
  have HLqb : Hid (w.heap.size ≤ qb) := show w.heap.size ≤ qb from by omega
  have HLrb : Hid (w.heap.size ≤ rb) := show w.heap.size ≤ rb from by omega
  have HIX : Hid (HI X hb c.H) := hI.same (hbX.block _ hI.lt)
  clear hbX hI hcv
  obtain ⟨us, hus⟩ : ∃ us, (Gm.look q c.H).isSome = us := ⟨_, rfl⟩
  have hlk : (Instr.lookup 65 (.map (some hb)) (.int .i64 q) true).run Try.prog X = .ok (.tuple #[.int .i64 (amt q c), .bool us]) X := by have h := HIX.out.look_ok q true; rw [hus] at h; exact h
  have HUS : Hid ((Gm.look q c.H).isSome = us) := hus
  clear hus
  generalize amt q c = am at hlk
  by_cases hq : c.val < a
  · have HO : Hid (holdO a q c = ((0, 60), (c.lim, c.val, c.held, c.H))) := show _ = _ from by unfold holdO; rw [if_pos hq]
    go_enter Try.func51, Try.ntmps51
    go_upto_region 1 with fail
    rw [← hX, ← hrb, ← hqb, ← hab, ← hcb]
    clear hX hcb hab hqb hrb
    have x0 : X.cell? ⟨cb, 0, none⟩ = some (.string ⟨c.nm.toArray⟩) := Bcb.out.cell 0
    have x1 : X.cell? ⟨cb, 1, none⟩ = some (.int .i64 c.lim) := Bcb.out.cell 1
    have x2 : X.cell? ⟨cb, 2, none⟩ = some (.int .i64 c.val) := Bcb.out.cell 2
    have x3 : X.cell? ⟨cb, 3, none⟩ = some (.int .i64 c.held) := Bcb.out.cell 3
    have x4 : X.cell? ⟨cb, 4, none⟩ = some (.map (some hb)) := Bcb.out.cell 4
    have xa : X.cell? ⟨ab, 0, none⟩ = some (.int .i64 a) := Bab.out.cell 0
    have xq : X.cell? ⟨qb, 0, none⟩ = some (.int .i64 q) := Bqb.out.cell 0
    go_wp2_with fail
    refine Calls.mono (refused_any 60 X) ?_
    rintro e9 w1 ⟨rfl, hb1⟩
    have hR1 : Blk w1 rb #[.int .i64 0, .int .i64 0, .nilFunc] 62 := Brb.out.below hb1 Brb.out.lt
    have r0 : w1.cell? ⟨rb, 0, none⟩ = some (.int .i64 0) := hR1.cell 0
    have q0 : w1.frozen? ⟨rb, 0, none⟩ = false := hR1.frozen 0
    have r1 : w1.cell? ⟨rb, 1, none⟩ = some (.int .i64 0) := hR1.cell 1
    have q1 : w1.frozen? ⟨rb, 1, none⟩ = false := hR1.frozen 1
    have r2 : w1.cell? ⟨rb, 2, none⟩ = some (.nilFunc) := hR1.cell 2
    have q2 : w1.frozen? ⟨rb, 2, none⟩ = false := hR1.frozen 2
    obtain ⟨Z, hZ⟩ : ∃ Z, Z = (((w1.setCell ⟨rb, 0, none⟩ (.int .i64 0)).setCell ⟨rb, 1, none⟩ (.int .i64 60)).setCell ⟨rb, 2, none⟩ (.nilFunc)) := ⟨_, rfl⟩
    have HZ : Hid (Blk Z rb #[.int .i64 0, .int .i64 60, .nilFunc] 62) := show Blk Z rb #[.int .i64 0, .int .i64 60, .nilFunc] 62 from by rw [hZ]; exact (Blk.set (Blk.set (Blk.set hR1 0 (.int .i64 0)) 1 (.int .i64 60)) 2 (.nilFunc))
    have HCZ : Hid (Chg (fun b => b = rb) w1 Z) := show Chg (fun b => b = rb) w1 Z from by rw [hZ]; exact (((setCell_chg _ _ _ _).trans (setCell_chg _ _ _ _) (fun _ _ e => e)).trans (setCell_chg _ _ _ _) (fun _ _ e => e))
    have HBZ : Hid (Below w.heap.size w Z) := show Below w.heap.size w Z from by have h := HBX.out.trans (hb1.mono HBX.out.size); exact h.trans (HCZ.out.below h.size (fun k e => by have := HLB.out.2; omega))
    clear hb1 hR1
    go_wp2_with fail
    rw [← hZ]
    refine bodyPost_ret (results_cell_row Try.results51 _ _ rb 62 _ (0, 0) _ rfl HZ.out Try.underlying62 rfl (by kernel_rfl)) rfl ?_
    rw [HO.out]
    exact ⟨.nilFunc, rfl, rfl, HBZ.out, fun h => absurd h (show ¬ (60 : Int) = 0 by decide)⟩
  · by_cases hq1 : q < 1
    · have HO : Hid (holdO a q c = ((0, 1), (c.lim, c.val, c.held, c.H))) := show _ = _ from by unfold holdO; rw [if_neg hq, if_pos (Or.inl hq1)]
      go_enter Try.func51, Try.ntmps51
      go_upto_region 1 with fail
      rw [← hX, ← hrb, ← hqb, ← hab, ← hcb]
      clear hX hcb hab hqb hrb
      have x0 : X.cell? ⟨cb, 0, none⟩ = some (.string ⟨c.nm.toArray⟩) := Bcb.out.cell 0
      have x1 : X.cell? ⟨cb, 1, none⟩ = some (.int .i64 c.lim) := Bcb.out.cell 1
      have x2 : X.cell? ⟨cb, 2, none⟩ = some (.int .i64 c.val) := Bcb.out.cell 2
      have x3 : X.cell? ⟨cb, 3, none⟩ = some (.int .i64 c.held) := Bcb.out.cell 3
      have x4 : X.cell? ⟨cb, 4, none⟩ = some (.map (some hb)) := Bcb.out.cell 4
      have xa : X.cell? ⟨ab, 0, none⟩ = some (.int .i64 a) := Bab.out.cell 0
      have xq : X.cell? ⟨qb, 0, none⟩ = some (.int .i64 q) := Bqb.out.cell 0
      go_wp2_with fail
      refine Calls.mono (refused_any 1 X) ?_
      rintro e9 w1 ⟨rfl, hb1⟩
      have hR1 : Blk w1 rb #[.int .i64 0, .int .i64 0, .nilFunc] 62 := Brb.out.below hb1 Brb.out.lt
      have r0 : w1.cell? ⟨rb, 0, none⟩ = some (.int .i64 0) := hR1.cell 0
      have q0 : w1.frozen? ⟨rb, 0, none⟩ = false := hR1.frozen 0
      have r1 : w1.cell? ⟨rb, 1, none⟩ = some (.int .i64 0) := hR1.cell 1
      have q1 : w1.frozen? ⟨rb, 1, none⟩ = false := hR1.frozen 1
      have r2 : w1.cell? ⟨rb, 2, none⟩ = some (.nilFunc) := hR1.cell 2
      have q2 : w1.frozen? ⟨rb, 2, none⟩ = false := hR1.frozen 2
      obtain ⟨Z, hZ⟩ : ∃ Z, Z = (((w1.setCell ⟨rb, 0, none⟩ (.int .i64 0)).setCell ⟨rb, 1, none⟩ (.int .i64 1)).setCell ⟨rb, 2, none⟩ (.nilFunc)) := ⟨_, rfl⟩
      have HZ : Hid (Blk Z rb #[.int .i64 0, .int .i64 1, .nilFunc] 62) := show Blk Z rb #[.int .i64 0, .int .i64 1, .nilFunc] 62 from by rw [hZ]; exact (Blk.set (Blk.set (Blk.set hR1 0 (.int .i64 0)) 1 (.int .i64 1)) 2 (.nilFunc))
      have HCZ : Hid (Chg (fun b => b = rb) w1 Z) := show Chg (fun b => b = rb) w1 Z from by rw [hZ]; exact (((setCell_chg _ _ _ _).trans (setCell_chg _ _ _ _) (fun _ _ e => e)).trans (setCell_chg _ _ _ _) (fun _ _ e => e))
      have HBZ : Hid (Below w.heap.size w Z) := show Below w.heap.size w Z from by have h := HBX.out.trans (hb1.mono HBX.out.size); exact h.trans (HCZ.out.below h.size (fun k e => by have := HLB.out.2; omega))
      clear hb1 hR1
      go_wp2_with fail
      rw [← hZ]
      refine bodyPost_ret (results_cell_row Try.results51 _ _ rb 62 _ (0, 0) _ rfl HZ.out Try.underlying62 rfl (by kernel_rfl)) rfl ?_
      rw [HO.out]
      exact ⟨.nilFunc, rfl, rfl, HBZ.out, fun h => absurd h (show ¬ (1 : Int) = 0 by decide)⟩
    · cases us
      · have HO : Hid (holdO a q c = ((q, 0), (c.lim, c.val - a, c.held + a, Gm.putM q a c.H))) := show _ = _ from by unfold holdO; rw [if_neg hq, if_neg (by rw [HUS.out]; rintro (h | h); exact hq1 h; cases h)]
        go_enter Try.func51, Try.ntmps51
        go_upto_region 1 with fail
        rw [← hX, ← hrb, ← hqb, ← hab, ← hcb]
        clear hX hcb hab hqb hrb
        have x0 : X.cell? ⟨cb, 0, none⟩ = some (.string ⟨c.nm.toArray⟩) := Bcb.out.cell 0
        have x1 : X.cell? ⟨cb, 1, none⟩ = some (.int .i64 c.lim) := Bcb.out.cell 1
        have x2 : X.cell? ⟨cb, 2, none⟩ = some (.int .i64 c.val) := Bcb.out.cell 2
        have x3 : X.cell? ⟨cb, 3, none⟩ = some (.int .i64 c.held) := Bcb.out.cell 3
        have x4 : X.cell? ⟨cb, 4, none⟩ = some (.map (some hb)) := Bcb.out.cell 4
        have xa : X.cell? ⟨ab, 0, none⟩ = some (.int .i64 a) := Bab.out.cell 0
        have xq : X.cell? ⟨qb, 0, none⟩ = some (.int .i64 q) := Bqb.out.cell 0
        have r0 : X.cell? ⟨rb, 0, none⟩ = some (.int .i64 0) := Brb.out.cell 0
        have q0 : X.frozen? ⟨rb, 0, none⟩ = false := Brb.out.frozen 0
        have r1 : X.cell? ⟨rb, 1, none⟩ = some (.int .i64 0) := Brb.out.cell 1
        have q1 : X.frozen? ⟨rb, 1, none⟩ = false := Brb.out.frozen 1
        have r2 : X.cell? ⟨rb, 2, none⟩ = some (.nilFunc) := Brb.out.cell 2
        have q2 : X.frozen? ⟨rb, 2, none⟩ = false := Brb.out.frozen 2
        obtain ⟨Z, hZ⟩ : ∃ Z, Z = (((X.setCell ⟨rb, 0, none⟩ (.int .i64 q)).setCell ⟨rb, 1, none⟩ (.int .i64 0)).setCell ⟨rb, 2, none⟩ (.func (.func 67) #[] #[.pointer (some ⟨cb, 0, none⟩), .pointer (some ⟨ab, 0, none⟩), .pointer (some ⟨qb, 0, none⟩)])) := ⟨_, rfl⟩
        have HZ : Hid (Blk Z rb #[.int .i64 q, .int .i64 0, .func (.func 67) #[] #[.pointer (some ⟨cb, 0, none⟩), .pointer (some ⟨ab, 0, none⟩), .pointer (some ⟨qb, 0, none⟩)]] 62) := show Blk Z rb #[.int .i64 q, .int .i64 0, .func (.func 67) #[] #[.pointer (some ⟨cb, 0, none⟩), .pointer (some ⟨ab, 0, none⟩), .pointer (some ⟨qb, 0, none⟩)]] 62 from by rw [hZ]; exact (Blk.set (Blk.set (Blk.set Brb.out 0 (.int .i64 q)) 1 (.int .i64 0)) 2 (.func (.func 67) #[] #[.pointer (some ⟨cb, 0, none⟩), .pointer (some ⟨ab, 0, none⟩), .pointer (some ⟨qb, 0, none⟩)]))
        have HCZ : Hid (Chg (fun b => b = rb) X Z) := show Chg (fun b => b = rb) X Z from by rw [hZ]; exact (((setCell_chg _ _ _ _).trans (setCell_chg _ _ _ _) (fun _ _ e => e)).trans (setCell_chg _ _ _ _) (fun _ _ e => e))
        have HBZ : Hid (Below w.heap.size w Z) := show Below w.heap.size w Z from by have h := HBX.out; exact h.trans (HCZ.out.below h.size (fun k e => by have := HLB.out.2; omega))
        have hmf' := hmf
        go_wp2_with fail
        rw [← hZ]
        refine bodyPost_ret (results_cell_row Try.results51 _ _ rb 62 _ (0, 0) _ rfl HZ.out Try.underlying62 rfl (by kernel_rfl)) rfl ?_
        rw [HO.out]
        refine ⟨_, rfl, rfl, HBZ.out, fun _ => ?_⟩
        have kcb : Blk Z cb #[.string ⟨c.nm.toArray⟩, .int .i64 c.lim, .int .i64 c.val, .int .i64 c.held, .map (some hb)] 67 := HCZ.out.blk Bcb.out (Blk.ne_t Bcb.out Brb.out (by decide))
        have ka : Blk Z ab #[.int .i64 a] 3 := HCZ.out.blk Bab.out (Blk.ne_t Bab.out Brb.out (by decide))
        have kq : Blk Z qb #[.int .i64 q] 3 := HCZ.out.blk Bqb.out (Blk.ne_t Bqb.out Brb.out (by decide))
        have kI : HI Z hb c.H := HIX.out.same (HCZ.out.block _ HIX.out.lt (fun e => HIX.out.ne_b Brb.out e.symm))
        exact doer_map (c' := { c with val := c.val - a, held := c.held + a, H := Gm.putM q a c.H }) (fun args w => by simp [go_sem]) HLB.out.1 kcb.lt hhb (fun W h => hold1_any a q W (h.blk (show Blk _ cb c.cs 67 from hcs ▸ kcb) HLcb.out) (h.blk ka HLab.out) (h.blk kq HLqb.out) (h.hi kI) hhb h3 h4)
      · have HO : Hid (holdO a q c = ((0, 1), (c.lim, c.val, c.held, c.H))) := show _ = _ from by unfold holdO; rw [if_neg hq, if_pos (Or.inr HUS.out)]
        go_enter Try.func51, Try.ntmps51
        go_upto_region 1 with fail
        rw [← hX, ← hrb, ← hqb, ← hab, ← hcb]
        clear hX hcb hab hqb hrb
        have x0 : X.cell? ⟨cb, 0, none⟩ = some (.string ⟨c.nm.toArray⟩) := Bcb.out.cell 0
        have x1 : X.cell? ⟨cb, 1, none⟩ = some (.int .i64 c.lim) := Bcb.out.cell 1
        have x2 : X.cell? ⟨cb, 2, none⟩ = some (.int .i64 c.val) := Bcb.out.cell 2
        have x3 : X.cell? ⟨cb, 3, none⟩ = some (.int .i64 c.held) := Bcb.out.cell 3
        have x4 : X.cell? ⟨cb, 4, none⟩ = some (.map (some hb)) := Bcb.out.cell 4
        have xa : X.cell? ⟨ab, 0, none⟩ = some (.int .i64 a) := Bab.out.cell 0
        have xq : X.cell? ⟨qb, 0, none⟩ = some (.int .i64 q) := Bqb.out.cell 0
        go_wp2_with fail
        refine Calls.mono (refused_any 1 X) ?_
        rintro e9 w1 ⟨rfl, hb1⟩
        have hR1 : Blk w1 rb #[.int .i64 0, .int .i64 0, .nilFunc] 62 := Brb.out.below hb1 Brb.out.lt
        have r0 : w1.cell? ⟨rb, 0, none⟩ = some (.int .i64 0) := hR1.cell 0
        have q0 : w1.frozen? ⟨rb, 0, none⟩ = false := hR1.frozen 0
        have r1 : w1.cell? ⟨rb, 1, none⟩ = some (.int .i64 0) := hR1.cell 1
        have q1 : w1.frozen? ⟨rb, 1, none⟩ = false := hR1.frozen 1
        have r2 : w1.cell? ⟨rb, 2, none⟩ = some (.nilFunc) := hR1.cell 2
        have q2 : w1.frozen? ⟨rb, 2, none⟩ = false := hR1.frozen 2
        obtain ⟨Z, hZ⟩ : ∃ Z, Z = (((w1.setCell ⟨rb, 0, none⟩ (.int .i64 0)).setCell ⟨rb, 1, none⟩ (.int .i64 1)).setCell ⟨rb, 2, none⟩ (.nilFunc)) := ⟨_, rfl⟩
        have HZ : Hid (Blk Z rb #[.int .i64 0, .int .i64 1, .nilFunc] 62) := show Blk Z rb #[.int .i64 0, .int .i64 1, .nilFunc] 62 from by rw [hZ]; exact (Blk.set (Blk.set (Blk.set hR1 0 (.int .i64 0)) 1 (.int .i64 1)) 2 (.nilFunc))
        have HCZ : Hid (Chg (fun b => b = rb) w1 Z) := show Chg (fun b => b = rb) w1 Z from by rw [hZ]; exact (((setCell_chg _ _ _ _).trans (setCell_chg _ _ _ _) (fun _ _ e => e)).trans (setCell_chg _ _ _ _) (fun _ _ e => e))
        have HBZ : Hid (Below w.heap.size w Z) := show Below w.heap.size w Z from by have h := HBX.out.trans (hb1.mono HBX.out.size); exact h.trans (HCZ.out.below h.size (fun k e => by have := HLB.out.2; omega))
        clear hb1 hR1
        go_wp2_with fail
        rw [← hZ]
        refine bodyPost_ret (results_cell_row Try.results51 _ _ rb 62 _ (0, 0) _ rfl HZ.out Try.underlying62 rfl (by kernel_rfl)) rfl ?_
        rw [HO.out]
        exact ⟨.nilFunc, rfl, rfl, HBZ.out, fun h => absurd h (show ¬ (1 : Int) = 0 by decide)⟩
end Go.Proofs.Ytgajmiibkakobaa
