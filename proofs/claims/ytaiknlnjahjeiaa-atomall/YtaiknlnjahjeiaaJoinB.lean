import Derived.Test.YtaiknlnjahjeiaaMe1
import Derived.Deep.Cut
namespace Go.Proofs.Ytaiknlnjahjeiaa
open Go.RowKit Go.PlainAid Go.MapKept
set_option linter.unusedVariables false
set_option linter.unusedSimpArgs false
set_option maxRecDepth 100000 in
set_option maxHeartbeats 3200000 in
theorem hold_any {hb : Nat} {c : Ct} (a q : Int) (w : World) (hI : HI w hb c.H) (hhb : c.hb = some hb) (h3 : IntKind.i64.wrap (c.val - a) = c.val - a) (h4 : IntKind.i64.wrap (c.held + a) = c.held + a) :
    Calls Try.prog 51 #[ctV c, .int .i64 a, .int .i64 q] w (PlPost (some hb) c.nm (holdO a q c) w) := by
  have hcv : ctV c = .agg #[.string ⟨c.nm.toArray⟩, .int .i64 c.lim, .int .i64 c.val, .int .i64 c.held, .map (some hb)] := by simp only [ctV, Ct.cs, hhb]
  have hcs : c.cs = #[.string ⟨c.nm.toArray⟩, .int .i64 c.lim, .int .i64 c.val, .int .i64 c.held, .map (some hb)] := by simp only [Ct.cs, hhb]
  rw [hcv]
  obtain ⟨cb, hcb⟩ : ∃ b, b = w.heap.size := ⟨_, rfl⟩
  obtain ⟨ab, hab⟩ : ∃ b, b = w.heap.size + 1 := ⟨_, rfl⟩
  obtain ⟨qb, hqb⟩ : ∃ b, b = w.heap.size + 1 + 1 := ⟨_, rfl⟩
  obtain ⟨rb, hrb⟩ : ∃ b, b = w.heap.size + 1 + 1 + 1 := ⟨_, rfl⟩
  obtain ⟨X, hX⟩ : ∃ X, X = ((((w.alloc (.cells #[.string ⟨c.nm.toArray⟩, .int .i64 c.lim, .int .i64 c.val, .int .i64 c.held, .map (some hb)] 67)).alloc (.cells #[.int .i64 a] 3)).alloc (.cells #[.int .i64 q] 3)).alloc (.cells #[.int .i64 0, .int .i64 0, .nilFunc] 62)) := ⟨_, rfl⟩
  have hbX : Below w.heap.size w X := by rw [hX]; exact (((((Below.refl _ _).alloc (by first | exact Nat.le_refl _ | (simp; try omega)) _).alloc (by first | exact Nat.le_refl _ | (simp; try omega)) _).alloc (by first | exact Nat.le_refl _ | (simp; try omega)) _).alloc (by first | exact Nat.le_refl _ | (simp; try omega)) _)
  have Bcb : Hid (Blk X cb #[.string ⟨c.nm.toArray⟩, .int .i64 c.lim, .int .i64 c.val, .int .i64 c.held, .map (some hb)] 67) := show Blk X cb #[.string ⟨c.nm.toArray⟩, .int .i64 c.lim, .int .i64 c.val, .int .i64 c.held, .map (some hb)] 67 from by rw [hX]; exact (blk_alloc (blk_alloc (blk_alloc (show Blk (w.alloc (.cells #[.string ⟨c.nm.toArray⟩, .int .i64 c.lim, .int .i64 c.val, .int .i64 c.held, .map (some hb)] 67)) cb #[.string ⟨c.nm.toArray⟩, .int .i64 c.lim, .int .i64 c.val, .int .i64 c.held, .map (some hb)] 67 from by rw [hcb]; have h := heap_alloc_new w (.cells #[.string ⟨c.nm.toArray⟩, .int .i64 c.lim, .int .i64 c.val, .int .i64 c.held, .map (some hb)] 67); exact h) _) _) _)
  have Bab : Hid (Blk X ab #[.int .i64 a] 3) := show Blk X ab #[.int .i64 a] 3 from by rw [hX]; exact (blk_alloc (blk_alloc (show Blk ((w.alloc (.cells #[.string ⟨c.nm.toArray⟩, .int .i64 c.lim, .int .i64 c.val, .int .i64 c.held, .map (some hb)] 67)).alloc (.cells #[.int .i64 a] 3)) ab #[.int .i64 a] 3 from by rw [hab]; have h := heap_alloc_new (w.alloc (.cells #[.string ⟨c.nm.toArray⟩, .int .i64 c.lim, .int .i64 c.val, .int .i64 c.held, .map (some hb)] 67)) (.cells #[.int .i64 a] 3); simp only [World.size_alloc] at h; exact h) _) _)
  have Bqb : Hid (Blk X qb #[.int .i64 q] 3) := show Blk X qb #[.int .i64 q] 3 from by rw [hX]; exact (blk_alloc (show Blk (((w.alloc (.cells #[.string ⟨c.nm.toArray⟩, .int .i64 c.lim, .int .i64 c.val, .int .i64 c.held, .map (some hb)] 67)).alloc (.cells #[.int .i64 a] 3)).alloc (.cells #[.int .i64 q] 3)) qb #[.int .i64 q] 3 from by rw [hqb]; have h := heap_alloc_new ((w.alloc (.cells #[.string ⟨c.nm.toArray⟩, .int .i64 c.lim, .int .i64 c.val, .int .i64 c.held, .map (some hb)] 67)).alloc (.cells #[.int .i64 a] 3)) (.cells #[.int .i64 q] 3); simp only [World.size_alloc] at h; exact h) _)
  have Brb : Hid (Blk X rb #[.int .i64 0, .int .i64 0, .nilFunc] 62) := show Blk X rb #[.int .i64 0, .int .i64 0, .nilFunc] 62 from by rw [hX]; exact (show Blk ((((w.alloc (.cells #[.string ⟨c.nm.toArray⟩, .int .i64 c.lim, .int .i64 c.val, .int .i64 c.held, .map (some hb)] 67)).alloc (.cells #[.int .i64 a] 3)).alloc (.cells #[.int .i64 q] 3)).alloc (.cells #[.int .i64 0, .int .i64 0, .nilFunc] 62)) rb #[.int .i64 0, .int .i64 0, .nilFunc] 62 from by rw [hrb]; have h := heap_alloc_new (((w.alloc (.cells #[.string ⟨c.nm.toArray⟩, .int .i64 c.lim, .int .i64 c.val, .int .i64 c.held, .map (some hb)] 67)).alloc (.cells #[.int .i64 a] 3)).alloc (.cells #[.int .i64 q] 3)) (.cells #[.int .i64 0, .int .i64 0, .nilFunc] 62); simp only [World.size_alloc] at h; exact h)
  have HBX : Hid (Below w.heap.size w X) := hbX
  have HLB : Hid (w.heap.size ≤ cb ∧ w.heap.size ≤ rb) := ⟨by omega, by omega⟩
  have HLcb : Hid (w.heap.size ≤ cb) := show w.heap.size ≤ cb from by omega
  have HLab : Hid (w.heap.size ≤ ab) := show w.heap.size ≤ ab from by omega
  have HLqb : Hid (w.heap.size ≤ qb) := show w.heap.size ≤ qb from by omega
  have HLrb : Hid (w.heap.size ≤ rb) := show w.heap.size ≤ rb from by omega
  have HIX : Hid (HI X hb c.H) := hI.same (hbX.block _ hI.lt)
  clear hbX hI hcv
  obtain ⟨us, hus⟩ : ∃ us, (Gm.look q c.H).isSome = us := ⟨_, rfl⟩
  have hlk : (Instr.lookup 65 (.map (some hb)) (.int .i64 q) true).run Try.prog X = .ok (.tuple #[.int .i64 (amt q c), .bool us]) X := by have h := HIX.out.look_ok q true; rw [hus] at h; exact h
  have HUS : Hid ((Gm.look q c.H).isSome = us) := hus
  clear hus
  generalize amt q c = am at hlk
  by_cases hq : c.val < a
  · have HO : Hid (holdO a q c = ((0, 60), (c.lim, c.val, c.held, c.H))) := show _ = _ from by unfold holdO; rw [if_pos hq]
    go_enter Try.func51, Try.ntmps51
    go_upto_region 1 with fail
    rw [← hX, ← hrb, ← hqb, ← hab, ← hcb]
    clear hX hcb hab hqb hrb
    have x0 : X.cell? ⟨cb, 0, none⟩ = some (.string ⟨c.nm.toArray⟩) := Bcb.out.cell 0
    have x1 : X.cell? ⟨cb, 1, none⟩ = some (.int .i64 c.lim) := Bcb.out.cell 1
    have x2 : X.cell? ⟨cb, 2, none⟩ = some (.int .i64 c.val) := Bcb.out.cell 2
    have x3 : X.cell? ⟨cb, 3, none⟩ = some (.int .i64 c.held) := Bcb.out.cell 3
    have x4 : X.cell? ⟨cb, 4, none⟩ = some (.map (some hb)) := Bcb.out.cell 4
    have xa : X.cell? ⟨ab, 0, none⟩ = some (.int .i64 a) := Bab.out.cell 0
    have xq : X.cell? ⟨qb, 0, none⟩ = some (.int .i64 q) := Bqb.out.cell 0
    go_wp2_with fail
    refine Calls.mono (refused_any 60 X) ?_
    rintro e9 w1 ⟨rfl, hb1⟩
    have hR1 : Blk w1 rb #[.int .i64 0, .int .i64 0, .nilFunc] 62 := Brb.out.below hb1 Brb.out.lt
    have r0 : w1.cell? ⟨rb, 0, none⟩ = some (.int .i64 0) := hR1.cell 0
    have q0 : w1.frozen? ⟨rb, 0, none⟩ = false := hR1.frozen 0
    have r1 : w1.cell? ⟨rb, 1, none⟩ = some (.int .i64 0) := hR1.cell 1
    have q1 : w1.frozen? ⟨rb, 1, none⟩ = false := hR1.frozen 1
    have r2 : w1.cell? ⟨rb, 2, none⟩ = some (.nilFunc) := hR1.cell 2
    have q2 : w1.frozen? ⟨rb, 2, none⟩ = false := hR1.frozen 2
    obtain ⟨Z, hZ⟩ : ∃ Z, Z = (((w1.setCell ⟨rb, 0, none⟩ (.int .i64 0)).setCell ⟨rb, 1, none⟩ (.int .i64 60)).setCell ⟨rb, 2, none⟩ (.nilFunc)) := ⟨_, rfl⟩
    have HZ : Hid (Blk Z rb #[.int .i64 0, .int .i64 60, .nilFunc] 62) := show Blk Z rb #[.int .i64 0, .int .i64 60, .nilFunc] 62 from by rw [hZ]; exact (Blk.set (Blk.set (Blk.set hR1 0 (.int .i64 0)) 1 (.int .i64 60)) 2 (.nilFunc))
    have HCZ : Hid (Chg (fun b => b = rb) w1 Z) := show Chg (fun b => b = rb) w1 Z from by rw [hZ]; exact (((setCell_chg _ _ _ _).trans (setCell_chg _ _ _ _) (fun _ _ e => e)).trans (setCell_chg _ _ _ _) (fun _ _ e => e))
    have HBZ : Hid (Below w.heap.size w Z) := show Below w.heap.size w Z from by have h := HBX.out.trans (hb1.mono HBX.out.size); exact h.trans (HCZ.out.below h.size (fun k e => by have := HLB.out.2; omega))
    clear hb1 hR1
    go_wp2_with fail
    rw [← hZ]
    refine bodyPost_ret (results_cell_row Try.results51 _ _ rb 62 _ (0, 0) _ rfl HZ.out Try.underlying62 rfl (by kernel_rfl)) rfl ?_
    rw [HO.out]
    exact ⟨.nilFunc, rfl, rfl, HBZ.out, fun h => absurd h (show ¬ (60 : Int) = 0 by decide)⟩
  · by_cases hq1 : q < 1
    · have HO : Hid (holdO a q c = ((0, 1), (c.lim, c.val, c.held, c.H))) := show _ = _ from by unfold holdO; rw [if_neg hq, if_pos (Or.inl hq1)]
      go_enter Try.func51, Try.ntmps51
      go_upto_region 1 with fail
      rw [← hX, ← hrb, ← hqb, ← hab, ← hcb]
      clear hX hcb hab hqb hrb
      have x0 : X.cell? ⟨cb, 0, none⟩ = some (.string ⟨c.nm.toArray⟩) := Bcb.out.cell 0
      have x1 : X.cell? ⟨cb, 1, none⟩ = some (.int .i64 c.lim) := Bcb.out.cell 1
      have x2 : X.cell? ⟨cb, 2, none⟩ = some (.int .i64 c.val) := Bcb.out.cell 2
      have x3 : X.cell? ⟨cb, 3, none⟩ = some (.int .i64 c.held) := Bcb.out.cell 3
      have x4 : X.cell? ⟨cb, 4, none⟩ = some (.map (some hb)) := Bcb.out.cell 4
      have xa : X.cell? ⟨ab, 0, none⟩ = some (.int .i64 a) := Bab.out.cell 0
      have xq : X.cell? ⟨qb, 0, none⟩ = some (.int .i64 q) := Bqb.out.cell 0
      go_wp2_with fail
      refine Calls.mono (refused_any 1 X) ?_
      rintro e9 w1 ⟨rfl, hb1⟩
      have hR1 : Blk w1 rb #[.int .i64 0, .int .i64 0, .nilFunc] 62 := Brb.out.below hb1 Brb.out.lt
      have r0 : w1.cell? ⟨rb, 0, none⟩ = some (.int .i64 0) := hR1.cell 0
      have q0 : w1.frozen? ⟨rb, 0, none⟩ = false := hR1.frozen 0
      have r1 : w1.cell? ⟨rb, 1, none⟩ = some (.int .i64 0) := hR1.cell 1
      have q1 : w1.frozen? ⟨rb, 1, none⟩ = false := hR1.frozen 1
      have r2 : w1.cell? ⟨rb, 2, none⟩ = some (.nilFunc) := hR1.cell 2
      have q2 : w1.frozen? ⟨rb, 2, none⟩ = false := hR1.frozen 2
      obtain ⟨Z, hZ⟩ : ∃ Z, Z = (((w1.setCell ⟨rb, 0, none⟩ (.int .i64 0)).setCell ⟨rb, 1, none⟩ (.int .i64 1)).setCell ⟨rb, 2, none⟩ (.nilFunc)) := ⟨_, rfl⟩
      have HZ : Hid (Blk Z rb #[.int .i64 0, .int .i64 1, .nilFunc] 62) := show Blk Z rb #[.int .i64 0, .int .i64 1, .nilFunc] 62 from by rw [hZ]; exact (Blk.set (Blk.set (Blk.set hR1 0 (.int .i64 0)) 1 (.int .i64 1)) 2 (.nilFunc))
      have HCZ : Hid (Chg (fun b => b = rb) w1 Z) := show Chg (fun b => b = rb) w1 Z from by rw [hZ]; exact (((setCell_chg _ _ _ _).trans (setCell_chg _ _ _ _) (fun _ _ e => e)).trans (setCell_chg _ _ _ _) (fun _ _ e => e))
      have HBZ : Hid (Below w.heap.size w Z) := show Below w.heap.size w Z from by have h := HBX.out.trans (hb1.mono HBX.out.size); exact h.trans (HCZ.out.below h.size (fun k e => by have := HLB.out.2; omega))
      clear hb1 hR1
      go_wp2_with fail
      rw [← hZ]
      refine bodyPost_ret (results_cell_row Try.results51 _ _ rb 62 _ (0, 0) _ rfl HZ.out Try.underlying62 rfl (by kernel_rfl)) rfl ?_
      rw [HO.out]
      exact ⟨.nilFunc, rfl, rfl, HBZ.out, fun h => absurd h (show ¬ (1 : Int) = 0 by decide)⟩
    · cases us
      · have HO : Hid (holdO a q c = ((q, 0), (c.lim, c.val - a, c.held + a, Gm.putM q a c.H))) := show _ = _ from by unfold holdO; rw [if_neg hq, if_neg (by rw [HUS.out]; rintro (h | h); exact hq1 h; cases h)]
        go_enter Try.func51, Try.ntmps51
        go_upto_region 1 with fail
        rw [← hX, ← hrb, ← hqb, ← hab, ← hcb]
        clear hX hcb hab hqb hrb
        have x0 : X.cell? ⟨cb, 0, none⟩ = some (.string ⟨c.nm.toArray⟩) := Bcb.out.cell 0
        have x1 : X.cell? ⟨cb, 1, none⟩ = some (.int .i64 c.lim) := Bcb.out.cell 1
        have x2 : X.cell? ⟨cb, 2, none⟩ = some (.int .i64 c.val) := Bcb.out.cell 2
        have x3 : X.cell? ⟨cb, 3, none⟩ = some (.int .i64 c.held) := Bcb.out.cell 3
        have x4 : X.cell? ⟨cb, 4, none⟩ = some (.map (some hb)) := Bcb.out.cell 4
        have xa : X.cell? ⟨ab, 0, none⟩ = some (.int .i64 a) := Bab.out.cell 0
        have xq : X.cell? ⟨qb, 0, none⟩ = some (.int .i64 q) := Bqb.out.cell 0
        have r0 : X.cell? ⟨rb, 0, none⟩ = some (.int .i64 0) := Brb.out.cell 0
        have q0 : X.frozen? ⟨rb, 0, none⟩ = false := Brb.out.frozen 0
        have r1 : X.cell? ⟨rb, 1, none⟩ = some (.int .i64 0) := Brb.out.cell 1
        have q1 : X.frozen? ⟨rb, 1, none⟩ = false := Brb.out.frozen 1
        have r2 : X.cell? ⟨rb, 2, none⟩ = some (.nilFunc) := Brb.out.cell 2
        have q2 : X.frozen? ⟨rb, 2, none⟩ = false := Brb.out.frozen 2
        obtain ⟨Z, hZ⟩ : ∃ Z, Z = (((X.setCell ⟨rb, 0, none⟩ (.int .i64 q)).setCell ⟨rb, 1, none⟩ (.int .i64 0)).setCell ⟨rb, 2, none⟩ (.func (.func 67) #[] #[.pointer (some ⟨cb, 0, none⟩), .pointer (some ⟨ab, 0, none⟩), .pointer (some ⟨qb, 0, none⟩)])) := ⟨_, rfl⟩
        have HZ : Hid (Blk Z rb #[.int .i64 q, .int .i64 0, .func (.func 67) #[] #[.pointer (some ⟨cb, 0, none⟩), .pointer (some ⟨ab, 0, none⟩), .pointer (some ⟨qb, 0, none⟩)]] 62) := show Blk Z rb #[.int .i64 q, .int .i64 0, .func (.func 67) #[] #[.pointer (some ⟨cb, 0, none⟩), .pointer (some ⟨ab, 0, none⟩), .pointer (some ⟨qb, 0, none⟩)]] 62 from by rw [hZ]; exact (Blk.set (Blk.set (Blk.set Brb.out 0 (.int .i64 q)) 1 (.int .i64 0)) 2 (.func (.func 67) #[] #[.pointer (some ⟨cb, 0, none⟩), .pointer (some ⟨ab, 0, none⟩), .pointer (some ⟨qb, 0, none⟩)]))
        have HCZ : Hid (Chg (fun b => b = rb) X Z) := show Chg (fun b => b = rb) X Z from by rw [hZ]; exact (((setCell_chg _ _ _ _).trans (setCell_chg _ _ _ _) (fun _ _ e => e)).trans (setCell_chg _ _ _ _) (fun _ _ e => e))
        have HBZ : Hid (Below w.heap.size w Z) := show Below w.heap.size w Z from by have h := HBX.out; exact h.trans (HCZ.out.below h.size (fun k e => by have := HLB.out.2; omega))
        have hmf' := hmf
        go_wp2_with fail
        rw [← hZ]
        refine bodyPost_ret (results_cell_row Try.results51 _ _ rb 62 _ (0, 0) _ rfl HZ.out Try.underlying62 rfl (by kernel_rfl)) rfl ?_
        rw [HO.out]
        refine ⟨_, rfl, rfl, HBZ.out, fun _ => ?_⟩
        have kcb : Blk Z cb #[.string ⟨c.nm.toArray⟩, .int .i64 c.lim, .int .i64 c.val, .int .i64 c.held, .map (some hb)] 67 := HCZ.out.blk Bcb.out (Blk.ne_t Bcb.out Brb.out (by decide))
        have ka : Blk Z ab #[.int .i64 a] 3 := HCZ.out.blk Bab.out (Blk.ne_t Bab.out Brb.out (by decide))
        have kq : Blk Z qb #[.int .i64 q] 3 := HCZ.out.blk Bqb.out (Blk.ne_t Bqb.out Brb.out (by decide))
        have kI : HI Z hb c.H := HIX.out.same (HCZ.out.block _ HIX.out.lt (fun e => HIX.out.ne_b Brb.out e.symm))
        exact doer_map (c' := { c with val := c.val - a, held := c.held + a, H := Gm.putM q a c.H }) (fun args w => by simp [go_sem]) HLB.out.1 kcb.lt hhb (fun W h => hold1_any a q W (h.blk (show Blk _ cb c.cs 67 from hcs ▸ kcb) HLcb.out) (h.blk ka HLab.out) (h.blk kq HLqb.out) (h.hi kI) hhb h3 h4)
      · have HO : Hid (holdO a q c = ((0, 1), (c.lim, c.val, c.held, c.H))) := show _ = _ from by unfold holdO; rw [if_neg hq, if_pos (Or.inr HUS.out)]
        go_enter Try.func51, Try.ntmps51
        go_upto_region 1 with fail
        rw [← hX, ← hrb, ← hqb, ← hab, ← hcb]
        clear hX hcb hab hqb hrb
        have x0 : X.cell? ⟨cb, 0, none⟩ = some (.string ⟨c.nm.toArray⟩) := Bcb.out.cell 0
        have x1 : X.cell? ⟨cb, 1, none⟩ = some (.int .i64 c.lim) := Bcb.out.cell 1
        have x2 : X.cell? ⟨cb, 2, none⟩ = some (.int .i64 c.val) := Bcb.out.cell 2
        have x3 : X.cell? ⟨cb, 3, none⟩ = some (.int .i64 c.held) := Bcb.out.cell 3
        have x4 : X.cell? ⟨cb, 4, none⟩ = some (.map (some hb)) := Bcb.out.cell 4
        have xa : X.cell? ⟨ab, 0, none⟩ = some (.int .i64 a) := Bab.out.cell 0
        have xq : X.cell? ⟨qb, 0, none⟩ = some (.int .i64 q) := Bqb.out.cell 0
        go_wp2_with fail
        refine Calls.mono (refused_any 1 X) ?_
        rintro e9 w1 ⟨rfl, hb1⟩
        have hR1 : Blk w1 rb #[.int .i64 0, .int .i64 0, .nilFunc] 62 := Brb.out.below hb1 Brb.out.lt
        have r0 : w1.cell? ⟨rb, 0, none⟩ = some (.int .i64 0) := hR1.cell 0
        have q0 : w1.frozen? ⟨rb, 0, none⟩ = false := hR1.frozen 0
        have r1 : w1.cell? ⟨rb, 1, none⟩ = some (.int .i64 0) := hR1.cell 1
        have q1 : w1.frozen? ⟨rb, 1, none⟩ = false := hR1.frozen 1
        have r2 : w1.cell? ⟨rb, 2, none⟩ = some (.nilFunc) := hR1.cell 2
        have q2 : w1.frozen? ⟨rb, 2, none⟩ = false := hR1.frozen 2
        obtain ⟨Z, hZ⟩ : ∃ Z, Z = (((w1.setCell ⟨rb, 0, none⟩ (.int .i64 0)).setCell ⟨rb, 1, none⟩ (.int .i64 1)).setCell ⟨rb, 2, none⟩ (.nilFunc)) := ⟨_, rfl⟩
        have HZ : Hid (Blk Z rb #[.int .i64 0, .int .i64 1, .nilFunc] 62) := show Blk Z rb #[.int .i64 0, .int .i64 1, .nilFunc] 62 from by rw [hZ]; exact (Blk.set (Blk.set (Blk.set hR1 0 (.int .i64 0)) 1 (.int .i64 1)) 2 (.nilFunc))
        have HCZ : Hid (Chg (fun b => b = rb) w1 Z) := show Chg (fun b => b = rb) w1 Z from by rw [hZ]; exact (((setCell_chg _ _ _ _).trans (setCell_chg _ _ _ _) (fun _ _ e => e)).trans (setCell_chg _ _ _ _) (fun _ _ e => e))
        have HBZ : Hid (Below w.heap.size w Z) := show Below w.heap.size w Z from by have h := HBX.out.trans (hb1.mono HBX.out.size); exact h.trans (HCZ.out.below h.size (fun k e => by have := HLB.out.2; omega))
        clear hb1 hR1
        go_wp2_with fail
        rw [← hZ]
        refine bodyPost_ret (results_cell_row Try.results51 _ _ rb 62 _ (0, 0) _ rfl HZ.out Try.underlying62 rfl (by kernel_rfl)) rfl ?_
        rw [HO.out]
        exact ⟨.nilFunc, rfl, rfl, HBZ.out, fun h => absurd h (show ¬ (1 : Int) = 0 by decide)⟩
end Go.Proofs.Ytaiknlnjahjeiaa
namespace Go.Proofs.Ytaiknlnjahjeiaa
open Go.RowKit Go.PlainAid Go.MapKept
set_option linter.unusedVariables false
set_option linter.unusedSimpArgs false
set_option maxRecDepth 100000 in
set_option maxHeartbeats 3200000 in
theorem end_any {hb : Nat} {c : Ct} (kd q : Int) (w : World) (hI : HI w hb c.H) (hhb : c.hb = some hb) (h3 : IntKind.i64.wrap (c.held - amt q c) = c.held - amt q c) (h4 : IntKind.i64.wrap (c.val + amt q c) = c.val + amt q c) :
    Calls Try.prog 52 #[ctV c, .int .i64 kd, .int .i64 q] w (PlPost (some hb) c.nm (endO kd q c) w) := by
  have hcv : ctV c = .agg #[.string ⟨c.nm.toArray⟩, .int .i64 c.lim, .int .i64 c.val, .int .i64 c.held, .map (some hb)] := by simp only [ctV, Ct.cs, hhb]
  have hcs : c.cs = #[.string ⟨c.nm.toArray⟩, .int .i64 c.lim, .int .i64 c.val, .int .i64 c.held, .map (some hb)] := by simp only [Ct.cs, hhb]
  rw [hcv]
  obtain ⟨cb, hcb⟩ : ∃ b, b = w.heap.size := ⟨_, rfl⟩
  obtain ⟨kdb, hkdb⟩ : ∃ b, b = w.heap.size + 1 := ⟨_, rfl⟩
  obtain ⟨qb, hqb⟩ : ∃ b, b = w.heap.size + 1 + 1 := ⟨_, rfl⟩
  obtain ⟨rb, hrb⟩ : ∃ b, b = w.heap.size + 1 + 1 + 1 := ⟨_, rfl⟩
  obtain ⟨X, hX⟩ : ∃ X, X = ((((w.alloc (.cells #[.string ⟨c.nm.toArray⟩, .int .i64 c.lim, .int .i64 c.val, .int .i64 c.held, .map (some hb)] 67)).alloc (.cells #[.int .i64 kd] 3)).alloc (.cells #[.int .i64 q] 3)).alloc (.cells #[.int .i64 0, .int .i64 0, .nilFunc] 62)) := ⟨_, rfl⟩
  have hbX : Below w.heap.size w X := by rw [hX]; exact (((((Below.refl _ _).alloc (by first | exact Nat.le_refl _ | (simp; try omega)) _).alloc (by first | exact Nat.le_refl _ | (simp; try omega)) _).alloc (by first | exact Nat.le_refl _ | (simp; try omega)) _).alloc (by first | exact Nat.le_refl _ | (simp; try omega)) _)
  have Bcb : Hid (Blk X cb #[.string ⟨c.nm.toArray⟩, .int .i64 c.lim, .int .i64 c.val, .int .i64 c.held, .map (some hb)] 67) := show Blk X cb #[.string ⟨c.nm.toArray⟩, .int .i64 c.lim, .int .i64 c.val, .int .i64 c.held, .map (some hb)] 67 from by rw [hX]; exact (blk_alloc (blk_alloc (blk_alloc (show Blk (w.alloc (.cells #[.string ⟨c.nm.toArray⟩, .int .i64 c.lim, .int .i64 c.val, .int .i64 c.held, .map (some hb)] 67)) cb #[.string ⟨c.nm.toArray⟩, .int .i64 c.lim, .int .i64 c.val, .int .i64 c.held, .map (some hb)] 67 from by rw [hcb]; have h := heap_alloc_new w (.cells #[.string ⟨c.nm.toArray⟩, .int .i64 c.lim, .int .i64 c.val, .int .i64 c.held, .map (some hb)] 67); exact h) _) _) _)
  have Bkdb : Hid (Blk X kdb #[.int .i64 kd] 3) := show Blk X kdb #[.int .i64 kd] 3 from by rw [hX]; exact (blk_alloc (blk_alloc (show Blk ((w.alloc (.cells #[.string ⟨c.nm.toArray⟩, .int .i64 c.lim, .int .i64 c.val, .int .i64 c.held, .map (some hb)] 67)).alloc (.cells #[.int .i64 kd] 3)) kdb #[.int .i64 kd] 3 from by rw [hkdb]; have h := heap_alloc_new (w.alloc (.cells #[.string ⟨c.nm.toArray⟩, .int .i64 c.lim, .int .i64 c.val, .int .i64 c.held, .map (some hb)] 67)) (.cells #[.int .i64 kd] 3); simp only [World.size_alloc] at h; exact h) _) _)
  have Bqb : Hid (Blk X qb #[.int .i64 q] 3) := show Blk X qb #[.int .i64 q] 3 from by rw [hX]; exact (blk_alloc (show Blk (((w.alloc (.cells #[.string ⟨c.nm.toArray⟩, .int .i64 c.lim, .int .i64 c.val, .int .i64 c.held, .map (some hb)] 67)).alloc (.cells #[.int .i64 kd] 3)).alloc (.cells #[.int .i64 q] 3)) qb #[.int .i64 q] 3 from by rw [hqb]; have h := heap_alloc_new ((w.alloc (.cells #[.string ⟨c.nm.toArray⟩, .int .i64 c.lim, .int .i64 c.val, .int .i64 c.held, .map (some hb)] 67)).alloc (.cells #[.int .i64 kd] 3)) (.cells #[.int .i64 q] 3); simp only [World.size_alloc] at h; exact h) _)
  have Brb : Hid (Blk X rb #[.int .i64 0, .int .i64 0, .nilFunc] 62) := show Blk X rb #[.int .i64 0, .int .i64 0, .nilFunc] 62 from by rw [hX]; exact (show Blk ((((w.alloc (.cells #[.string ⟨c.nm.toArray⟩, .int .i64 c.lim, .int .i64 c.val, .int .i64 c.held, .map (some hb)] 67)).alloc (.cells #[.int .i64 kd] 3)).alloc (.cells #[.int .i64 q] 3)).alloc (.cells #[.int .i64 0, .int .i64 0, .nilFunc] 62)) rb #[.int .i64 0, .int .i64 0, .nilFunc] 62 from by rw [hrb]; have h := heap_alloc_new (((w.alloc (.cells #[.string ⟨c.nm.toArray⟩, .int .i64 c.lim, .int .i64 c.val, .int .i64 c.held, .map (some hb)] 67)).alloc (.cells #[.int .i64 kd] 3)).alloc (.cells #[.int .i64 q] 3)) (.cells #[.int .i64 0, .int .i64 0, .nilFunc] 62); simp only [World.size_alloc] at h; exact h)
  have HBX : Hid (Below w.heap.size w X) := hbX
  have HLB : Hid (w.heap.size ≤ cb ∧ w.heap.size ≤ rb) := ⟨by omega, by omega⟩
  have HLcb : Hid (w.heap.size ≤ cb) := show w.heap.size ≤ cb from by omega
  have HLkdb : Hid (w.heap.size ≤ kdb) := show w.heap.size ≤ kdb from by omega
  have HLqb : Hid (w.heap.size ≤ qb) := show w.heap.size ≤ qb from by omega
  have HLrb : Hid (w.heap.size ≤ rb) := show w.heap.size ≤ rb from by omega
  have HIX : Hid (HI X hb c.H) := hI.same (hbX.block _ hI.lt)
  clear hbX hI hcv
  have hlk : (Instr.lookup 65 (.map (some hb)) (.int .i64 q) false).run Try.prog X = .ok (.int .i64 (amt q c)) X := HIX.out.look_ok q false
  obtain ⟨am, ham⟩ : ∃ am, am = amt q c := ⟨_, rfl⟩
  rw [← ham] at hlk h3 h4
  have HAM : Hid (am = amt q c) := ham
  obtain ⟨amb, hamb⟩ : ∃ b, b = X.heap.size := ⟨_, rfl⟩
  obtain ⟨Y, hY⟩ : ∃ Y, Y = X.alloc (.cells #[.int .i64 am] 3) := ⟨_, rfl⟩
  have hbY : Below X.heap.size X Y := by rw [hY]; exact (Below.refl _ _).alloc (Nat.le_refl _) _
  have HBY : Hid (Below X.heap.size X Y) := hbY
  have Bamb : Hid (Blk Y amb #[.int .i64 am] 3) := show Blk Y amb #[.int .i64 am] 3 from by rw [hY, hamb]; exact heap_alloc_new X _
  have HLamb : Hid (w.heap.size ≤ amb) := show w.heap.size ≤ amb from by rw [hamb]; exact HBX.out.size
  have HWY : Hid (Below w.heap.size w Y) := HBX.out.trans (hbY.mono HBX.out.size)
  have YR : Hid (Blk Y rb #[.int .i64 0, .int .i64 0, .nilFunc] 62) := Brb.out.below hbY Brb.out.lt
  have YC : Hid (Blk Y cb #[.string ⟨c.nm.toArray⟩, .int .i64 c.lim, .int .i64 c.val, .int .i64 c.held, .map (some hb)] 67) := Bcb.out.below hbY Bcb.out.lt
  have Yq : Hid (Blk Y qb #[.int .i64 q] 3) := Bqb.out.below hbY Bqb.out.lt
  have Yk : Hid (Blk Y kdb #[.int .i64 kd] 3) := Bkdb.out.below hbY Bkdb.out.lt
  have YI : Hid (HI Y hb c.H) := HIX.out.same (hbY.block _ HIX.out.lt)
  clear hbY ham
  by_cases hq : am = 0
  · have HO : Hid (endO kd q c = ((0, 70), (c.lim, c.val, c.held, c.H))) := show _ = _ from by unfold endO; rw [← HAM.out, if_pos hq]
    have hzz : (am == 0) = true := by simpa using hq
    clear hq
    go_enter Try.func52, Try.ntmps52
    go_upto_region 1 with fail
    rw [← hX, ← hrb, ← hqb, ← hkdb, ← hcb]
    clear hX hcb hkdb hqb hrb
    have x0 : X.cell? ⟨cb, 0, none⟩ = some (.string ⟨c.nm.toArray⟩) := Bcb.out.cell 0
    have x1 : X.cell? ⟨cb, 1, none⟩ = some (.int .i64 c.lim) := Bcb.out.cell 1
    have x2 : X.cell? ⟨cb, 2, none⟩ = some (.int .i64 c.val) := Bcb.out.cell 2
    have x3 : X.cell? ⟨cb, 3, none⟩ = some (.int .i64 c.held) := Bcb.out.cell 3
    have x4 : X.cell? ⟨cb, 4, none⟩ = some (.map (some hb)) := Bcb.out.cell 4
    have xkd : X.cell? ⟨kdb, 0, none⟩ = some (.int .i64 kd) := Bkdb.out.cell 0
    have xq : X.cell? ⟨qb, 0, none⟩ = some (.int .i64 q) := Bqb.out.cell 0
    go_upto_region 2 with fail
    rw [← hY, ← hamb]
    clear hY hamb hlk x0 x1 x2 x3 x4 xkd xq
    have ya : Y.cell? ⟨amb, 0, none⟩ = some (.int .i64 am) := Bamb.out.cell 0
    go_wp2_with fail
    refine Calls.mono (refused_any 70 Y) ?_
    rintro e9 w1 ⟨rfl, hb1⟩
    have hR1 : Blk w1 rb #[.int .i64 0, .int .i64 0, .nilFunc] 62 := YR.out.below hb1 YR.out.lt
    have r0 : w1.cell? ⟨rb, 0, none⟩ = some (.int .i64 0) := hR1.cell 0
    have q0 : w1.frozen? ⟨rb, 0, none⟩ = false := hR1.frozen 0
    have r1 : w1.cell? ⟨rb, 1, none⟩ = some (.int .i64 0) := hR1.cell 1
    have q1 : w1.frozen? ⟨rb, 1, none⟩ = false := hR1.frozen 1
    have r2 : w1.cell? ⟨rb, 2, none⟩ = some (.nilFunc) := hR1.cell 2
    have q2 : w1.frozen? ⟨rb, 2, none⟩ = false := hR1.frozen 2
    obtain ⟨Z, hZ⟩ : ∃ Z, Z = (((w1.setCell ⟨rb, 0, none⟩ (.int .i64 0)).setCell ⟨rb, 1, none⟩ (.int .i64 70)).setCell ⟨rb, 2, none⟩ (.nilFunc)) := ⟨_, rfl⟩
    have HZ : Hid (Blk Z rb #[.int .i64 0, .int .i64 70, .nilFunc] 62) := show Blk Z rb #[.int .i64 0, .int .i64 70, .nilFunc] 62 from by rw [hZ]; exact (Blk.set (Blk.set (Blk.set hR1 0 (.int .i64 0)) 1 (.int .i64 70)) 2 (.nilFunc))
    have HCZ : Hid (Chg (fun b => b = rb) w1 Z) := show Chg (fun b => b = rb) w1 Z from by rw [hZ]; exact (((setCell_chg _ _ _ _).trans (setCell_chg _ _ _ _) (fun _ _ e => e)).trans (setCell_chg _ _ _ _) (fun _ _ e => e))
    have HBZ : Hid (Below w.heap.size w Z) := show Below w.heap.size w Z from by have h := HWY.out.trans (hb1.mono HWY.out.size); exact h.trans (HCZ.out.below h.size (fun k e => by have := HLB.out.2; omega))
    clear hb1 hR1
    go_wp2_with fail
    rw [← hZ]
    refine bodyPost_ret (results_cell_row Try.results52 _ _ rb 62 _ (0, 0) _ rfl HZ.out Try.underlying62 rfl (by kernel_rfl)) rfl ?_
    rw [HO.out]
    exact ⟨.nilFunc, rfl, rfl, HBZ.out, fun h => absurd h (show ¬ (70 : Int) = 0 by decide)⟩
  · by_cases hk12 : kd = 12
    · have hzz : (am == 0) = false := by simpa using hq
      have hk5 : ¬ kd = 5 := by omega
      have hk5s := hk5
      have hkb : (kd == 12) = true := by simpa using hk12
      have HO : Hid (endO kd q c = ((0, 0), (c.lim, c.val + am, c.held - am, Gm.putM q 0 c.H))) := show _ = _ from by unfold endO; rw [← HAM.out, if_neg hq]; rw [if_pos hk12, if_neg hk5]
      clear hq hk5 hk12
      go_enter Try.func52, Try.ntmps52
      go_upto_region 1 with fail
      rw [← hX, ← hrb, ← hqb, ← hkdb, ← hcb]
      clear hX hcb hkdb hqb hrb
      have x0 : X.cell? ⟨cb, 0, none⟩ = some (.string ⟨c.nm.toArray⟩) := Bcb.out.cell 0
      have x1 : X.cell? ⟨cb, 1, none⟩ = some (.int .i64 c.lim) := Bcb.out.cell 1
      have x2 : X.cell? ⟨cb, 2, none⟩ = some (.int .i64 c.val) := Bcb.out.cell 2
      have x3 : X.cell? ⟨cb, 3, none⟩ = some (.int .i64 c.held) := Bcb.out.cell 3
      have x4 : X.cell? ⟨cb, 4, none⟩ = some (.map (some hb)) := Bcb.out.cell 4
      have xkd : X.cell? ⟨kdb, 0, none⟩ = some (.int .i64 kd) := Bkdb.out.cell 0
      have xq : X.cell? ⟨qb, 0, none⟩ = some (.int .i64 q) := Bqb.out.cell 0
      go_upto_region 2 with fail
      rw [← hY, ← hamb]
      clear hY hamb hlk x0 x1 x2 x3 x4 xkd xq
      have ya : Y.cell? ⟨amb, 0, none⟩ = some (.int .i64 am) := Bamb.out.cell 0
      obtain ⟨db, hdb⟩ : ∃ b, b = Y.heap.size := ⟨_, rfl⟩
      obtain ⟨V, hV⟩ : ∃ V, V = Y.alloc (.cells #[.int .i64 am, .int .i64 0, .func (.func 68) #[] #[.pointer (some ⟨cb, 0, none⟩), .pointer (some ⟨amb, 0, none⟩), .pointer (some ⟨qb, 0, none⟩), .pointer (some ⟨kdb, 0, none⟩)]] 62) := ⟨_, rfl⟩
      have hbV : Below Y.heap.size Y V := by rw [hV]; exact (Below.refl _ _).alloc (Nat.le_refl _) _
      have Vd : Hid (Blk V db #[.int .i64 am, .int .i64 0, .func (.func 68) #[] #[.pointer (some ⟨cb, 0, none⟩), .pointer (some ⟨amb, 0, none⟩), .pointer (some ⟨qb, 0, none⟩), .pointer (some ⟨kdb, 0, none⟩)]] 62) := show Blk V db #[.int .i64 am, .int .i64 0, .func (.func 68) #[] #[.pointer (some ⟨cb, 0, none⟩), .pointer (some ⟨amb, 0, none⟩), .pointer (some ⟨qb, 0, none⟩), .pointer (some ⟨kdb, 0, none⟩)]] 62 from by rw [hV, hdb]; exact heap_alloc_new Y _
      have VR : Hid (Blk V rb #[.int .i64 0, .int .i64 0, .nilFunc] 62) := YR.out.below hbV YR.out.lt
      have HWV : Hid (Below w.heap.size w V) := HWY.out.trans (hbV.mono HWY.out.size)
      have HBV : Hid (Below Y.heap.size Y V) := hbV
      have HDL : Hid (w.heap.size ≤ db) := show w.heap.size ≤ db from by rw [hdb]; exact HWY.out.size
      have hnd : rb ≠ db := by have := YR.out.lt; omega
      have hmf' := hmf
      go_upto_region 5 with fail
      rw [← hV, ← hdb]
      clear hV hdb hbV ya
      have vk : V.cell? ⟨kdb, 0, none⟩ = some (.int .i64 kd) := (Yk.out.below HBV.out Yk.out.lt).cell 0
      obtain ⟨U, hU⟩ : ∃ U, U = V.setCell ⟨db, 0, none⟩ (.int .i64 0) := ⟨_, rfl⟩
      have hcU : Chg (fun b => b = db) V U := by rw [hU]; exact setCell_chg _ _ _ _
      have Ud : Hid (Blk U db #[.int .i64 0, .int .i64 0, .func (.func 68) #[] #[.pointer (some ⟨cb, 0, none⟩), .pointer (some ⟨amb, 0, none⟩), .pointer (some ⟨qb, 0, none⟩), .pointer (some ⟨kdb, 0, none⟩)]] 62) := show Blk U db #[.int .i64 0, .int .i64 0, .func (.func 68) #[] #[.pointer (some ⟨cb, 0, none⟩), .pointer (some ⟨amb, 0, none⟩), .pointer (some ⟨qb, 0, none⟩), .pointer (some ⟨kdb, 0, none⟩)]] 62 from by rw [hU]; exact Vd.out.set 0 _
      have UR : Hid (Blk U rb #[.int .i64 0, .int .i64 0, .nilFunc] 62) := hcU.blk VR.out hnd
      have HCU : Hid (Chg (fun b => b = db) V U) := hcU
      have vd : V.cell? ⟨db, 0, none⟩ = some (.int .i64 am) := Vd.out.cell 0
      have vf : V.frozen? ⟨db, 0, none⟩ = false := Vd.out.frozen 0
      go_upto_region 7 with fail
      rw [← hU]
      clear hU hcU vd vf vk
      have d0 : U.cell? ⟨db, 0, none⟩ = some (.int .i64 0) := Ud.out.cell 0
      have d1 : U.cell? ⟨db, 1, none⟩ = some (.int .i64 0) := Ud.out.cell 1
      have d2 : U.cell? ⟨db, 2, none⟩ = some (.func (.func 68) #[] #[.pointer (some ⟨cb, 0, none⟩), .pointer (some ⟨amb, 0, none⟩), .pointer (some ⟨qb, 0, none⟩), .pointer (some ⟨kdb, 0, none⟩)]) := Ud.out.cell 2
      have r0 : U.cell? ⟨rb, 0, none⟩ = some (.int .i64 0) := UR.out.cell 0
      have q0 : U.frozen? ⟨rb, 0, none⟩ = false := UR.out.frozen 0
      have r1 : U.cell? ⟨rb, 1, none⟩ = some (.int .i64 0) := UR.out.cell 1
      have q1 : U.frozen? ⟨rb, 1, none⟩ = false := UR.out.frozen 1
      have r2 : U.cell? ⟨rb, 2, none⟩ = some (.nilFunc) := UR.out.cell 2
      have q2 : U.frozen? ⟨rb, 2, none⟩ = false := UR.out.frozen 2
      obtain ⟨Z, hZ⟩ : ∃ Z, Z = (((U.setCell ⟨rb, 0, none⟩ (.int .i64 0)).setCell ⟨rb, 1, none⟩ (.int .i64 0)).setCell ⟨rb, 2, none⟩ (.func (.func 68) #[] #[.pointer (some ⟨cb, 0, none⟩), .pointer (some ⟨amb, 0, none⟩), .pointer (some ⟨qb, 0, none⟩), .pointer (some ⟨kdb, 0, none⟩)])) := ⟨_, rfl⟩
      have HZ : Hid (Blk Z rb #[.int .i64 0, .int .i64 0, .func (.func 68) #[] #[.pointer (some ⟨cb, 0, none⟩), .pointer (some ⟨amb, 0, none⟩), .pointer (some ⟨qb, 0, none⟩), .pointer (some ⟨kdb, 0, none⟩)]] 62) := show Blk Z rb #[.int .i64 0, .int .i64 0, .func (.func 68) #[] #[.pointer (some ⟨cb, 0, none⟩), .pointer (some ⟨amb, 0, none⟩), .pointer (some ⟨qb, 0, none⟩), .pointer (some ⟨kdb, 0, none⟩)]] 62 from by rw [hZ]; exact (Blk.set (Blk.set (Blk.set UR.out 0 (.int .i64 0)) 1 (.int .i64 0)) 2 (.func (.func 68) #[] #[.pointer (some ⟨cb, 0, none⟩), .pointer (some ⟨amb, 0, none⟩), .pointer (some ⟨qb, 0, none⟩), .pointer (some ⟨kdb, 0, none⟩)]))
      have HCZ : Hid (Chg (fun b => b = rb) U Z) := show Chg (fun b => b = rb) U Z from by rw [hZ]; exact (((setCell_chg _ _ _ _).trans (setCell_chg _ _ _ _) (fun _ _ e => e)).trans (setCell_chg _ _ _ _) (fun _ _ e => e))
      have HBZ : Hid (Below w.heap.size w Z) := show Below w.heap.size w Z from by have h := HWV.out.trans (HCU.out.below HWV.out.size (fun k e => by have := HDL.out; omega)); exact h.trans (HCZ.out.below h.size (fun k e => by have := HLB.out.2; omega))
      go_wp2_with fail
      rw [← hZ]
      refine bodyPost_ret (results_cell_row Try.results52 _ _ rb 62 _ (0, 0) _ rfl HZ.out Try.underlying62 rfl (by kernel_rfl)) rfl ?_
      rw [HO.out]
      refine ⟨_, rfl, rfl, HBZ.out, fun _ => ?_⟩
      have vcb : Blk V cb #[.string ⟨c.nm.toArray⟩, .int .i64 c.lim, .int .i64 c.val, .int .i64 c.held, .map (some hb)] 67 := YC.out.below HBV.out YC.out.lt
      have ucb : Blk U cb #[.string ⟨c.nm.toArray⟩, .int .i64 c.lim, .int .i64 c.val, .int .i64 c.held, .map (some hb)] 67 := HCU.out.blk vcb (Blk.ne_t vcb Vd.out (by decide))
      have kcb : Blk Z cb #[.string ⟨c.nm.toArray⟩, .int .i64 c.lim, .int .i64 c.val, .int .i64 c.held, .map (some hb)] 67 := HCZ.out.blk ucb (Blk.ne_t ucb UR.out (by decide))
      have vam : Blk V amb #[.int .i64 am] 3 := Bamb.out.below HBV.out Bamb.out.lt
      have uam : Blk U amb #[.int .i64 am] 3 := HCU.out.blk vam (Blk.ne_t vam Vd.out (by decide))
      have kam : Blk Z amb #[.int .i64 am] 3 := HCZ.out.blk uam (Blk.ne_t uam UR.out (by decide))
      have vq : Blk V qb #[.int .i64 q] 3 := Yq.out.below HBV.out Yq.out.lt
      have uq : Blk U qb #[.int .i64 q] 3 := HCU.out.blk vq (Blk.ne_t vq Vd.out (by decide))
      have kq : Blk Z qb #[.int .i64 q] 3 := HCZ.out.blk uq (Blk.ne_t uq UR.out (by decide))
      have vk : Blk V kdb #[.int .i64 kd] 3 := Yk.out.below HBV.out Yk.out.lt
      have uk : Blk U kdb #[.int .i64 kd] 3 := HCU.out.blk vk (Blk.ne_t vk Vd.out (by decide))
      have kk : Blk Z kdb #[.int .i64 kd] 3 := HCZ.out.blk uk (Blk.ne_t uk UR.out (by decide))
      have vI : HI V hb c.H := YI.out.same (HBV.out.block _ YI.out.lt)
      have uI : HI U hb c.H := vI.same (HCU.out.block _ vI.lt (fun e => vI.ne_b Vd.out e.symm))
      have kI : HI Z hb c.H := uI.same (HCZ.out.block _ uI.lt (fun e => uI.ne_b UR.out e.symm))
      exact doer_map (c' := { c with val := c.val + am, held := c.held - am, H := Gm.putM q 0 c.H }) (fun args w => by simp [go_sem]) HLB.out.1 kcb.lt hhb (fun W h => end1_yes am q kd W (h.blk (show Blk _ cb c.cs 67 from hcs ▸ kcb) HLcb.out) (h.blk kam HLamb.out) (h.blk kq HLqb.out) (h.blk kk HLkdb.out) (h.hi kI) hhb h3 h4 hk5s)
    · by_cases hk5 : kd = 5
      · have hzz : (am == 0) = false := by simpa using hq
        have hkb : (kd == 12) = false := by rw [beq_eq_false_iff_ne]; exact hk12
        have HO : Hid (endO kd q c = ((am, 0), (c.lim, c.val, c.held - am, Gm.putM q 0 c.H))) := show _ = _ from by unfold endO; rw [← HAM.out, if_neg hq]; rw [if_neg hk12, if_pos hk5]
        have HK5 : Hid (kd = 5) := hk5
        clear hq hk12 hk5
        go_enter Try.func52, Try.ntmps52
        go_upto_region 1 with fail
        rw [← hX, ← hrb, ← hqb, ← hkdb, ← hcb]
        clear hX hcb hkdb hqb hrb
        have x0 : X.cell? ⟨cb, 0, none⟩ = some (.string ⟨c.nm.toArray⟩) := Bcb.out.cell 0
        have x1 : X.cell? ⟨cb, 1, none⟩ = some (.int .i64 c.lim) := Bcb.out.cell 1
        have x2 : X.cell? ⟨cb, 2, none⟩ = some (.int .i64 c.val) := Bcb.out.cell 2
        have x3 : X.cell? ⟨cb, 3, none⟩ = some (.int .i64 c.held) := Bcb.out.cell 3
        have x4 : X.cell? ⟨cb, 4, none⟩ = some (.map (some hb)) := Bcb.out.cell 4
        have xkd : X.cell? ⟨kdb, 0, none⟩ = some (.int .i64 kd) := Bkdb.out.cell 0
        have xq : X.cell? ⟨qb, 0, none⟩ = some (.int .i64 q) := Bqb.out.cell 0
        go_upto_region 2 with fail
        rw [← hY, ← hamb]
        clear hY hamb hlk x0 x1 x2 x3 x4 xkd xq
        have ya : Y.cell? ⟨amb, 0, none⟩ = some (.int .i64 am) := Bamb.out.cell 0
        obtain ⟨db, hdb⟩ : ∃ b, b = Y.heap.size := ⟨_, rfl⟩
        obtain ⟨V, hV⟩ : ∃ V, V = Y.alloc (.cells #[.int .i64 am, .int .i64 0, .func (.func 68) #[] #[.pointer (some ⟨cb, 0, none⟩), .pointer (some ⟨amb, 0, none⟩), .pointer (some ⟨qb, 0, none⟩), .pointer (some ⟨kdb, 0, none⟩)]] 62) := ⟨_, rfl⟩
        have hbV : Below Y.heap.size Y V := by rw [hV]; exact (Below.refl _ _).alloc (Nat.le_refl _) _
        have Vd : Hid (Blk V db #[.int .i64 am, .int .i64 0, .func (.func 68) #[] #[.pointer (some ⟨cb, 0, none⟩), .pointer (some ⟨amb, 0, none⟩), .pointer (some ⟨qb, 0, none⟩), .pointer (some ⟨kdb, 0, none⟩)]] 62) := show Blk V db #[.int .i64 am, .int .i64 0, .func (.func 68) #[] #[.pointer (some ⟨cb, 0, none⟩), .pointer (some ⟨amb, 0, none⟩), .pointer (some ⟨qb, 0, none⟩), .pointer (some ⟨kdb, 0, none⟩)]] 62 from by rw [hV, hdb]; exact heap_alloc_new Y _
        have VR : Hid (Blk V rb #[.int .i64 0, .int .i64 0, .nilFunc] 62) := YR.out.below hbV YR.out.lt
        have HWV : Hid (Below w.heap.size w V) := HWY.out.trans (hbV.mono HWY.out.size)
        have HBV : Hid (Below Y.heap.size Y V) := hbV
        have hnd : rb ≠ db := by have := YR.out.lt; omega
        have hmf' := hmf
        go_upto_region 5 with fail
        rw [← hV, ← hdb]
        clear hV hdb hbV ya
        have vk : V.cell? ⟨kdb, 0, none⟩ = some (.int .i64 kd) := (Yk.out.below HBV.out Yk.out.lt).cell 0
        go_upto_region 7 with fail
        clear vk
        have d0 : V.cell? ⟨db, 0, none⟩ = some (.int .i64 am) := Vd.out.cell 0
        have d1 : V.cell? ⟨db, 1, none⟩ = some (.int .i64 0) := Vd.out.cell 1
        have d2 : V.cell? ⟨db, 2, none⟩ = some (.func (.func 68) #[] #[.pointer (some ⟨cb, 0, none⟩), .pointer (some ⟨amb, 0, none⟩), .pointer (some ⟨qb, 0, none⟩), .pointer (some ⟨kdb, 0, none⟩)]) := Vd.out.cell 2
        have r0 : V.cell? ⟨rb, 0, none⟩ = some (.int .i64 0) := VR.out.cell 0
        have q0 : V.frozen? ⟨rb, 0, none⟩ = false := VR.out.frozen 0
        have r1 : V.cell? ⟨rb, 1, none⟩ = some (.int .i64 0) := VR.out.cell 1
        have q1 : V.frozen? ⟨rb, 1, none⟩ = false := VR.out.frozen 1
        have r2 : V.cell? ⟨rb, 2, none⟩ = some (.nilFunc) := VR.out.cell 2
        have q2 : V.frozen? ⟨rb, 2, none⟩ = false := VR.out.frozen 2
        obtain ⟨Z, hZ⟩ : ∃ Z, Z = (((V.setCell ⟨rb, 0, none⟩ (.int .i64 am)).setCell ⟨rb, 1, none⟩ (.int .i64 0)).setCell ⟨rb, 2, none⟩ (.func (.func 68) #[] #[.pointer (some ⟨cb, 0, none⟩), .pointer (some ⟨amb, 0, none⟩), .pointer (some ⟨qb, 0, none⟩), .pointer (some ⟨kdb, 0, none⟩)])) := ⟨_, rfl⟩
        have HZ : Hid (Blk Z rb #[.int .i64 am, .int .i64 0, .func (.func 68) #[] #[.pointer (some ⟨cb, 0, none⟩), .pointer (some ⟨amb, 0, none⟩), .pointer (some ⟨qb, 0, none⟩), .pointer (some ⟨kdb, 0, none⟩)]] 62) := show Blk Z rb #[.int .i64 am, .int .i64 0, .func (.func 68) #[] #[.pointer (some ⟨cb, 0, none⟩), .pointer (some ⟨amb, 0, none⟩), .pointer (some ⟨qb, 0, none⟩), .pointer (some ⟨kdb, 0, none⟩)]] 62 from by rw [hZ]; exact (Blk.set (Blk.set (Blk.set VR.out 0 (.int .i64 am)) 1 (.int .i64 0)) 2 (.func (.func 68) #[] #[.pointer (some ⟨cb, 0, none⟩), .pointer (some ⟨amb, 0, none⟩), .pointer (some ⟨qb, 0, none⟩), .pointer (some ⟨kdb, 0, none⟩)]))
        have HCZ : Hid (Chg (fun b => b = rb) V Z) := show Chg (fun b => b = rb) V Z from by rw [hZ]; exact (((setCell_chg _ _ _ _).trans (setCell_chg _ _ _ _) (fun _ _ e => e)).trans (setCell_chg _ _ _ _) (fun _ _ e => e))
        have HBZ : Hid (Below w.heap.size w Z) := show Below w.heap.size w Z from by have h := HWV.out; exact h.trans (HCZ.out.below h.size (fun k e => by have := HLB.out.2; omega))
        go_wp2_with fail
        rw [← hZ]
        refine bodyPost_ret (results_cell_row Try.results52 _ _ rb 62 _ (0, 0) _ rfl HZ.out Try.underlying62 rfl (by kernel_rfl)) rfl ?_
        rw [HO.out]
        refine ⟨_, rfl, rfl, HBZ.out, fun _ => ?_⟩
        have vcb : Blk V cb #[.string ⟨c.nm.toArray⟩, .int .i64 c.lim, .int .i64 c.val, .int .i64 c.held, .map (some hb)] 67 := YC.out.below HBV.out YC.out.lt
        have kcb : Blk Z cb #[.string ⟨c.nm.toArray⟩, .int .i64 c.lim, .int .i64 c.val, .int .i64 c.held, .map (some hb)] 67 := HCZ.out.blk vcb (Blk.ne_t vcb VR.out (by decide))
        have vam : Blk V amb #[.int .i64 am] 3 := Bamb.out.below HBV.out Bamb.out.lt
        have kam : Blk Z amb #[.int .i64 am] 3 := HCZ.out.blk vam (Blk.ne_t vam VR.out (by decide))
        have vq : Blk V qb #[.int .i64 q] 3 := Yq.out.below HBV.out Yq.out.lt
        have kq : Blk Z qb #[.int .i64 q] 3 := HCZ.out.blk vq (Blk.ne_t vq VR.out (by decide))
        have vk : Blk V kdb #[.int .i64 kd] 3 := Yk.out.below HBV.out Yk.out.lt
        have kk : Blk Z kdb #[.int .i64 kd] 3 := HCZ.out.blk vk (Blk.ne_t vk VR.out (by decide))
        have vI : HI V hb c.H := YI.out.same (HBV.out.block _ YI.out.lt)
        have kI : HI Z hb c.H := vI.same (HCZ.out.block _ vI.lt (fun e => vI.ne_b VR.out e.symm))
        exact doer_map (c' := { c with val := c.val, held := c.held - am, H := Gm.putM q 0 c.H }) (fun args w => by simp [go_sem]) HLB.out.1 kcb.lt hhb (fun W h => end1_no am q kd W (h.blk (show Blk _ cb c.cs 67 from hcs ▸ kcb) HLcb.out) (h.blk kam HLamb.out) (h.blk kq HLqb.out) (h.blk kk HLkdb.out) (h.hi kI) hhb h3 h4 HK5.out)
      · have hzz : (am == 0) = false := by simpa using hq
        have hk5s := hk5
        have hkb : (kd == 12) = false := by rw [beq_eq_false_iff_ne]; exact hk12
        have HO : Hid (endO kd q c = ((am, 0), (c.lim, c.val + am, c.held - am, Gm.putM q 0 c.H))) := show _ = _ from by unfold endO; rw [← HAM.out, if_neg hq]; rw [if_neg hk12, if_neg hk5]
        clear hq hk5 hk12
        go_enter Try.func52, Try.ntmps52
        go_upto_region 1 with fail
        rw [← hX, ← hrb, ← hqb, ← hkdb, ← hcb]
        clear hX hcb hkdb hqb hrb
        have x0 : X.cell? ⟨cb, 0, none⟩ = some (.string ⟨c.nm.toArray⟩) := Bcb.out.cell 0
        have x1 : X.cell? ⟨cb, 1, none⟩ = some (.int .i64 c.lim) := Bcb.out.cell 1
        have x2 : X.cell? ⟨cb, 2, none⟩ = some (.int .i64 c.val) := Bcb.out.cell 2
        have x3 : X.cell? ⟨cb, 3, none⟩ = some (.int .i64 c.held) := Bcb.out.cell 3
        have x4 : X.cell? ⟨cb, 4, none⟩ = some (.map (some hb)) := Bcb.out.cell 4
        have xkd : X.cell? ⟨kdb, 0, none⟩ = some (.int .i64 kd) := Bkdb.out.cell 0
        have xq : X.cell? ⟨qb, 0, none⟩ = some (.int .i64 q) := Bqb.out.cell 0
        go_upto_region 2 with fail
        rw [← hY, ← hamb]
        clear hY hamb hlk x0 x1 x2 x3 x4 xkd xq
        have ya : Y.cell? ⟨amb, 0, none⟩ = some (.int .i64 am) := Bamb.out.cell 0
        obtain ⟨db, hdb⟩ : ∃ b, b = Y.heap.size := ⟨_, rfl⟩
        obtain ⟨V, hV⟩ : ∃ V, V = Y.alloc (.cells #[.int .i64 am, .int .i64 0, .func (.func 68) #[] #[.pointer (some ⟨cb, 0, none⟩), .pointer (some ⟨amb, 0, none⟩), .pointer (some ⟨qb, 0, none⟩), .pointer (some ⟨kdb, 0, none⟩)]] 62) := ⟨_, rfl⟩
        have hbV : Below Y.heap.size Y V := by rw [hV]; exact (Below.refl _ _).alloc (Nat.le_refl _) _
        have Vd : Hid (Blk V db #[.int .i64 am, .int .i64 0, .func (.func 68) #[] #[.pointer (some ⟨cb, 0, none⟩), .pointer (some ⟨amb, 0, none⟩), .pointer (some ⟨qb, 0, none⟩), .pointer (some ⟨kdb, 0, none⟩)]] 62) := show Blk V db #[.int .i64 am, .int .i64 0, .func (.func 68) #[] #[.pointer (some ⟨cb, 0, none⟩), .pointer (some ⟨amb, 0, none⟩), .pointer (some ⟨qb, 0, none⟩), .pointer (some ⟨kdb, 0, none⟩)]] 62 from by rw [hV, hdb]; exact heap_alloc_new Y _
        have VR : Hid (Blk V rb #[.int .i64 0, .int .i64 0, .nilFunc] 62) := YR.out.below hbV YR.out.lt
        have HWV : Hid (Below w.heap.size w V) := HWY.out.trans (hbV.mono HWY.out.size)
        have HBV : Hid (Below Y.heap.size Y V) := hbV
        have hnd : rb ≠ db := by have := YR.out.lt; omega
        have hmf' := hmf
        go_upto_region 5 with fail
        rw [← hV, ← hdb]
        clear hV hdb hbV ya
        have vk : V.cell? ⟨kdb, 0, none⟩ = some (.int .i64 kd) := (Yk.out.below HBV.out Yk.out.lt).cell 0
        go_upto_region 7 with fail
        clear vk
        have d0 : V.cell? ⟨db, 0, none⟩ = some (.int .i64 am) := Vd.out.cell 0
        have d1 : V.cell? ⟨db, 1, none⟩ = some (.int .i64 0) := Vd.out.cell 1
        have d2 : V.cell? ⟨db, 2, none⟩ = some (.func (.func 68) #[] #[.pointer (some ⟨cb, 0, none⟩), .pointer (some ⟨amb, 0, none⟩), .pointer (some ⟨qb, 0, none⟩), .pointer (some ⟨kdb, 0, none⟩)]) := Vd.out.cell 2
        have r0 : V.cell? ⟨rb, 0, none⟩ = some (.int .i64 0) := VR.out.cell 0
        have q0 : V.frozen? ⟨rb, 0, none⟩ = false := VR.out.frozen 0
        have r1 : V.cell? ⟨rb, 1, none⟩ = some (.int .i64 0) := VR.out.cell 1
        have q1 : V.frozen? ⟨rb, 1, none⟩ = false := VR.out.frozen 1
        have r2 : V.cell? ⟨rb, 2, none⟩ = some (.nilFunc) := VR.out.cell 2
        have q2 : V.frozen? ⟨rb, 2, none⟩ = false := VR.out.frozen 2
        obtain ⟨Z, hZ⟩ : ∃ Z, Z = (((V.setCell ⟨rb, 0, none⟩ (.int .i64 am)).setCell ⟨rb, 1, none⟩ (.int .i64 0)).setCell ⟨rb, 2, none⟩ (.func (.func 68) #[] #[.pointer (some ⟨cb, 0, none⟩), .pointer (some ⟨amb, 0, none⟩), .pointer (some ⟨qb, 0, none⟩), .pointer (some ⟨kdb, 0, none⟩)])) := ⟨_, rfl⟩
        have HZ : Hid (Blk Z rb #[.int .i64 am, .int .i64 0, .func (.func 68) #[] #[.pointer (some ⟨cb, 0, none⟩), .pointer (some ⟨amb, 0, none⟩), .pointer (some ⟨qb, 0, none⟩), .pointer (some ⟨kdb, 0, none⟩)]] 62) := show Blk Z rb #[.int .i64 am, .int .i64 0, .func (.func 68) #[] #[.pointer (some ⟨cb, 0, none⟩), .pointer (some ⟨amb, 0, none⟩), .pointer (some ⟨qb, 0, none⟩), .pointer (some ⟨kdb, 0, none⟩)]] 62 from by rw [hZ]; exact (Blk.set (Blk.set (Blk.set VR.out 0 (.int .i64 am)) 1 (.int .i64 0)) 2 (.func (.func 68) #[] #[.pointer (some ⟨cb, 0, none⟩), .pointer (some ⟨amb, 0, none⟩), .pointer (some ⟨qb, 0, none⟩), .pointer (some ⟨kdb, 0, none⟩)]))
        have HCZ : Hid (Chg (fun b => b = rb) V Z) := show Chg (fun b => b = rb) V Z from by rw [hZ]; exact (((setCell_chg _ _ _ _).trans (setCell_chg _ _ _ _) (fun _ _ e => e)).trans (setCell_chg _ _ _ _) (fun _ _ e => e))
        have HBZ : Hid (Below w.heap.size w Z) := show Below w.heap.size w Z from by have h := HWV.out; exact h.trans (HCZ.out.below h.size (fun k e => by have := HLB.out.2; omega))
        go_wp2_with fail
        rw [← hZ]
        refine bodyPost_ret (results_cell_row Try.results52 _ _ rb 62 _ (0, 0) _ rfl HZ.out Try.underlying62 rfl (by kernel_rfl)) rfl ?_
        rw [HO.out]
        refine ⟨_, rfl, rfl, HBZ.out, fun _ => ?_⟩
        have vcb : Blk V cb #[.string ⟨c.nm.toArray⟩, .int .i64 c.lim, .int .i64 c.val, .int .i64 c.held, .map (some hb)] 67 := YC.out.below HBV.out YC.out.lt
        have kcb : Blk Z cb #[.string ⟨c.nm.toArray⟩, .int .i64 c.lim, .int .i64 c.val, .int .i64 c.held, .map (some hb)] 67 := HCZ.out.blk vcb (Blk.ne_t vcb VR.out (by decide))
        have vam : Blk V amb #[.int .i64 am] 3 := Bamb.out.below HBV.out Bamb.out.lt
        have kam : Blk Z amb #[.int .i64 am] 3 := HCZ.out.blk vam (Blk.ne_t vam VR.out (by decide))
        have vq : Blk V qb #[.int .i64 q] 3 := Yq.out.below HBV.out Yq.out.lt
        have kq : Blk Z qb #[.int .i64 q] 3 := HCZ.out.blk vq (Blk.ne_t vq VR.out (by decide))
        have vk : Blk V kdb #[.int .i64 kd] 3 := Yk.out.below HBV.out Yk.out.lt
        have kk : Blk Z kdb #[.int .i64 kd] 3 := HCZ.out.blk vk (Blk.ne_t vk VR.out (by decide))
        have vI : HI V hb c.H := YI.out.same (HBV.out.block _ YI.out.lt)
        have kI : HI Z hb c.H := vI.same (HCZ.out.block _ vI.lt (fun e => vI.ne_b VR.out e.symm))
        exact doer_map (c' := { c with val := c.val + am, held := c.held - am, H := Gm.putM q 0 c.H }) (fun args w => by simp [go_sem]) HLB.out.1 kcb.lt hhb (fun W h => end1_yes am q kd W (h.blk (show Blk _ cb c.cs 67 from hcs ▸ kcb) HLcb.out) (h.blk kam HLamb.out) (h.blk kq HLqb.out) (h.blk kk HLkdb.out) (h.hi kI) hhb h3 h4 hk5s)
end Go.Proofs.Ytaiknlnjahjeiaa
namespace Go.Proofs.Ytaiknlnjahjeiaa
open Go.RowKit Go.PlainAid Go.MapKept
set_option linter.unusedVariables false
set_option linter.unusedSimpArgs false
set_option maxRecDepth 100000 in
set_option maxHeartbeats 3200000 in
theorem take_any {hb : Nat} {c : Ct} (v a : Int) (w : World) (hI : HI w hb c.H) (hhb : c.hb = some hb) (h3 : IntKind.i64.wrap (c.val - a) = c.val - a) :
    Calls Try.prog 53 #[ctV c, .int .i64 v, .int .i64 a] w (PlPost (some hb) c.nm (takeO v a c) w) := by
  have hcv : ctV c = .agg #[.string ⟨c.nm.toArray⟩, .int .i64 c.lim, .int .i64 c.val, .int .i64 c.held, .map (some hb)] := by simp only [ctV, Ct.cs, hhb]
  have hcs : c.cs = #[.string ⟨c.nm.toArray⟩, .int .i64 c.lim, .int .i64 c.val, .int .i64 c.held, .map (some hb)] := by simp only [Ct.cs, hhb]
  rw [hcv]
  obtain ⟨cb, hcb⟩ : ∃ b, b = w.heap.size := ⟨_, rfl⟩
  obtain ⟨rb, hrb⟩ : ∃ b, b = w.heap.size + 1 := ⟨_, rfl⟩
  obtain ⟨X, hX⟩ : ∃ X, X = ((w.alloc (.cells #[.string ⟨c.nm.toArray⟩, .int .i64 c.lim, .int .i64 c.val, .int .i64 c.held, .map (some hb)] 67)).alloc (.cells #[.int .i64 0, .int .i64 0, .nilFunc] 62)) := ⟨_, rfl⟩
  have hbX : Below w.heap.size w X := by rw [hX]; exact (((Below.refl _ _).alloc (by first | exact Nat.le_refl _ | (simp; try omega)) _).alloc (by first | exact Nat.le_refl _ | (simp; try omega)) _)
  have Bcb : Hid (Blk X cb #[.string ⟨c.nm.toArray⟩, .int .i64 c.lim, .int .i64 c.val, .int .i64 c.held, .map (some hb)] 67) := show Blk X cb #[.string ⟨c.nm.toArray⟩, .int .i64 c.lim, .int .i64 c.val, .int .i64 c.held, .map (some hb)] 67 from by rw [hX]; exact (blk_alloc (show Blk (w.alloc (.cells #[.string ⟨c.nm.toArray⟩, .int .i64 c.lim, .int .i64 c.val, .int .i64 c.held, .map (some hb)] 67)) cb #[.string ⟨c.nm.toArray⟩, .int .i64 c.lim, .int .i64 c.val, .int .i64 c.held, .map (some hb)] 67 from by rw [hcb]; have h := heap_alloc_new w (.cells #[.string ⟨c.nm.toArray⟩, .int .i64 c.lim, .int .i64 c.val, .int .i64 c.held, .map (some hb)] 67); exact h) _)
  have Brb : Hid (Blk X rb #[.int .i64 0, .int .i64 0, .nilFunc] 62) := show Blk X rb #[.int .i64 0, .int .i64 0, .nilFunc] 62 from by rw [hX]; exact (show Blk ((w.alloc (.cells #[.string ⟨c.nm.toArray⟩, .int .i64 c.lim, .int .i64 c.val, .int .i64 c.held, .map (some hb)] 67)).alloc (.cells #[.int .i64 0, .int .i64 0, .nilFunc] 62)) rb #[.int .i64 0, .int .i64 0, .nilFunc] 62 from by rw [hrb]; have h := heap_alloc_new (w.alloc (.cells #[.string ⟨c.nm.toArray⟩, .int .i64 c.lim, .int .i64 c.val, .int .i64 c.held, .map (some hb)] 67)) (.cells #[.int .i64 0, .int .i64 0, .nilFunc] 62); simp only [World.size_alloc] at h; exact h)
  have HBX : Hid (Below w.heap.size w X) := hbX
  have HLB : Hid (w.heap.size ≤ cb ∧ w.heap.size ≤ rb) := ⟨by omega, by omega⟩
  have HLcb : Hid (w.heap.size ≤ cb) := show w.heap.size ≤ cb from by omega
  have HLrb : Hid (w.heap.size ≤ rb) := show w.heap.size ≤ rb from by omega
  have HIX : Hid (HI X hb c.H) := hI.same (hbX.block _ hI.lt)
  have hcv2 := hcv
  clear hbX hI hcv
  by_cases hv : c.val = v
  · by_cases hq : c.val < a
    · have HO : Hid (takeO v a c = ((0, 60), (c.lim, c.val, c.held, c.H))) := show _ = _ from by unfold takeO; rw [if_neg (fun h => h hv), if_pos hq]
      have HD : Hid (decO a c = ((0, 60), (c.lim, c.val, c.held, c.H))) := show _ = _ from by unfold decO; rw [if_pos hq]
      have hvb : (c.val == v) = true := by simpa using hv
      clear hq hv
      have HDE : Hid (Calls Try.prog 50 #[ctV c, .int .i64 a] X (PlPost (some hb) c.nm (decO a c) X)) := dec_any a X HIX.out hhb h3
      rw [hcv2] at HDE
      go_enter Try.func53, Try.ntmps53
      go_upto_region 1 with fail
      rw [← hX, ← hrb, ← hcb]
      clear hX hcb hrb
      have x0 : X.cell? ⟨cb, 0, none⟩ = some (.string ⟨c.nm.toArray⟩) := Bcb.out.cell 0
      have x1 : X.cell? ⟨cb, 1, none⟩ = some (.int .i64 c.lim) := Bcb.out.cell 1
      have x2 : X.cell? ⟨cb, 2, none⟩ = some (.int .i64 c.val) := Bcb.out.cell 2
      have x3 : X.cell? ⟨cb, 3, none⟩ = some (.int .i64 c.held) := Bcb.out.cell 3
      have x4 : X.cell? ⟨cb, 4, none⟩ = some (.map (some hb)) := Bcb.out.cell 4
      go_wp2_with fail
      refine Calls.mono HDE.out ?_
      rintro e9 w1 ⟨fv, rfl, hone, hb1, hdo⟩
      rw [HD.out] at hdo ⊢
      have hst : ∀ (A : Addr) (m : Mode) (W : World), (store A fv m).run Try.prog W = stored Try.prog W A fv m := fun A m W => run_store _ _ _ _ _ hone
      have hR1 : Blk w1 rb #[.int .i64 0, .int .i64 0, .nilFunc] 62 := Brb.out.below hb1 Brb.out.lt
      obtain ⟨db, hdb⟩ : ∃ b, b = w1.heap.size := ⟨_, rfl⟩
      obtain ⟨V, hV⟩ : ∃ V, V = w1.alloc (.cells #[.int .i64 0, .int .i64 60, fv] 62) := ⟨_, rfl⟩
      have hbV : Below w1.heap.size w1 V := by rw [hV]; exact (Below.refl _ _).alloc (Nat.le_refl _) _
      have Vd : Hid (Blk V db #[.int .i64 0, .int .i64 60, fv] 62) := show Blk V db #[.int .i64 0, .int .i64 60, fv] 62 from by rw [hV, hdb]; exact heap_alloc_new w1 _
      have VR : Hid (Blk V rb #[.int .i64 0, .int .i64 0, .nilFunc] 62) := hR1.below hbV hR1.lt
      have HBV : Hid (Below w1.heap.size w1 V) := hbV
      have HW1 : Hid (Below w.heap.size w w1) := HBX.out.trans (hb1.mono HBX.out.size)
      have HWV : Hid (Below w.heap.size w V) := HW1.out.trans (hbV.mono HW1.out.size)
      have hnd : rb ≠ db := by have := hR1.lt; omega
      have HDO : Hid _ := hdo
      have HXS : Hid (w.heap.size ≤ X.heap.size) := HBX.out.size
      have HDL : Hid (w.heap.size ≤ db) := show w.heap.size ≤ db from by rw [hdb]; exact HW1.out.size
      have HDB : Hid (db = w1.heap.size) := hdb
      have HI1 : Hid (HI w1 hb c.H) := HIX.out.same (hb1.block _ HIX.out.lt)
      have HR1 : Hid (Blk w1 rb #[.int .i64 0, .int .i64 0, .nilFunc] 62) := hR1
      go_upto_region 4 with fail
      rw [← hV, ← hdb]
      clear hV hdb hbV hdo hb1 hR1 x0 x1 x2 x3 x4
      have v1 : V.cell? ⟨db, 1, none⟩ = some (.int .i64 60) := Vd.out.cell 1
      go_upto_region 6 with fail
      clear v1
      have d0 : V.cell? ⟨db, 0, none⟩ = some (.int .i64 0) := Vd.out.cell 0
      have d1 : V.cell? ⟨db, 1, none⟩ = some (.int .i64 60) := Vd.out.cell 1
      have d2 : V.cell? ⟨db, 2, none⟩ = some (fv) := Vd.out.cell 2
      have r0 : V.cell? ⟨rb, 0, none⟩ = some (.int .i64 0) := VR.out.cell 0
      have q0 : V.frozen? ⟨rb, 0, none⟩ = false := VR.out.frozen 0
      have r1 : V.cell? ⟨rb, 1, none⟩ = some (.int .i64 0) := VR.out.cell 1
      have q1 : V.frozen? ⟨rb, 1, none⟩ = false := VR.out.frozen 1
      have r2 : V.cell? ⟨rb, 2, none⟩ = some (.nilFunc) := VR.out.cell 2
      have q2 : V.frozen? ⟨rb, 2, none⟩ = false := VR.out.frozen 2
      obtain ⟨Z, hZ⟩ : ∃ Z, Z = (((V.setCell ⟨rb, 0, none⟩ (.int .i64 0)).setCell ⟨rb, 1, none⟩ (.int .i64 60)).setCell ⟨rb, 2, none⟩ (fv)) := ⟨_, rfl⟩
      have HZ : Hid (Blk Z rb #[.int .i64 0, .int .i64 60, fv] 62) := show Blk Z rb #[.int .i64 0, .int .i64 60, fv] 62 from by rw [hZ]; exact (Blk.set (Blk.set (Blk.set VR.out 0 (.int .i64 0)) 1 (.int .i64 60)) 2 (fv))
      have HCZ : Hid (Chg (fun b => b = rb) V Z) := show Chg (fun b => b = rb) V Z from by rw [hZ]; exact (((setCell_chg _ _ _ _).trans (setCell_chg _ _ _ _) (fun _ _ e => e)).trans (setCell_chg _ _ _ _) (fun _ _ e => e))
      have HBZ : Hid (Below w.heap.size w Z) := show Below w.heap.size w Z from by have h := HWV.out; exact h.trans (HCZ.out.below h.size (fun k e => by have := HLB.out.2; omega))
      go_wp2_with fail
      rw [← hZ]
      refine bodyPost_ret (results_cell_row Try.results53 _ _ rb 62 _ (0, 0) _ rfl HZ.out Try.underlying62 rfl (by kernel_rfl)) rfl ?_
      rw [HO.out]
      exact ⟨fv, rfl, hone, HBZ.out, fun h => absurd h (show ¬ (60 : Int) = 0 by decide)⟩
    · have HO : Hid (takeO v a c = ((v, 0), (c.lim, c.val - a, c.held, c.H))) := show _ = _ from by unfold takeO; rw [if_neg (fun h => h hv), if_neg hq]
      have HD : Hid (decO a c = ((0, 0), (c.lim, c.val - a, c.held, c.H))) := show _ = _ from by unfold decO; rw [if_neg hq]
      have hvb : (c.val == v) = true := by simpa using hv
      clear hq hv
      have HDE : Hid (Calls Try.prog 50 #[ctV c, .int .i64 a] X (PlPost (some hb) c.nm (decO a c) X)) := dec_any a X HIX.out hhb h3
      rw [hcv2] at HDE
      go_enter Try.func53, Try.ntmps53
      go_upto_region 1 with fail
      rw [← hX, ← hrb, ← hcb]
      clear hX hcb hrb
      have x0 : X.cell? ⟨cb, 0, none⟩ = some (.string ⟨c.nm.toArray⟩) := Bcb.out.cell 0
      have x1 : X.cell? ⟨cb, 1, none⟩ = some (.int .i64 c.lim) := Bcb.out.cell 1
      have x2 : X.cell? ⟨cb, 2, none⟩ = some (.int .i64 c.val) := Bcb.out.cell 2
      have x3 : X.cell? ⟨cb, 3, none⟩ = some (.int .i64 c.held) := Bcb.out.cell 3
      have x4 : X.cell? ⟨cb, 4, none⟩ = some (.map (some hb)) := Bcb.out.cell 4
      go_wp2_with fail
      refine Calls.mono HDE.out ?_
      rintro e9 w1 ⟨fv, rfl, hone, hb1, hdo⟩
      rw [HD.out] at hdo ⊢
      have hst : ∀ (A : Addr) (m : Mode) (W : World), (store A fv m).run Try.prog W = stored Try.prog W A fv m := fun A m W => run_store _ _ _ _ _ hone
      have hR1 : Blk w1 rb #[.int .i64 0, .int .i64 0, .nilFunc] 62 := Brb.out.below hb1 Brb.out.lt
      obtain ⟨db, hdb⟩ : ∃ b, b = w1.heap.size := ⟨_, rfl⟩
      obtain ⟨V, hV⟩ : ∃ V, V = w1.alloc (.cells #[.int .i64 0, .int .i64 0, fv] 62) := ⟨_, rfl⟩
      have hbV : Below w1.heap.size w1 V := by rw [hV]; exact (Below.refl _ _).alloc (Nat.le_refl _) _
      have Vd : Hid (Blk V db #[.int .i64 0, .int .i64 0, fv] 62) := show Blk V db #[.int .i64 0, .int .i64 0, fv] 62 from by rw [hV, hdb]; exact heap_alloc_new w1 _
      have VR : Hid (Blk V rb #[.int .i64 0, .int .i64 0, .nilFunc] 62) := hR1.below hbV hR1.lt
      have HBV : Hid (Below w1.heap.size w1 V) := hbV
      have HW1 : Hid (Below w.heap.size w w1) := HBX.out.trans (hb1.mono HBX.out.size)
      have HWV : Hid (Below w.heap.size w V) := HW1.out.trans (hbV.mono HW1.out.size)
      have hnd : rb ≠ db := by have := hR1.lt; omega
      have HDO : Hid _ := hdo
      have HXS : Hid (w.heap.size ≤ X.heap.size) := HBX.out.size
      have HDL : Hid (w.heap.size ≤ db) := show w.heap.size ≤ db from by rw [hdb]; exact HW1.out.size
      have HDB : Hid (db = w1.heap.size) := hdb
      have HI1 : Hid (HI w1 hb c.H) := HIX.out.same (hb1.block _ HIX.out.lt)
      have HR1 : Hid (Blk w1 rb #[.int .i64 0, .int .i64 0, .nilFunc] 62) := hR1
      go_upto_region 4 with fail
      rw [← hV, ← hdb]
      clear hV hdb hbV hdo hb1 hR1 x0 x1 x2 x3 x4
      have v1 : V.cell? ⟨db, 1, none⟩ = some (.int .i64 0) := Vd.out.cell 1
      obtain ⟨U, hU⟩ : ∃ U, U = V.setCell ⟨db, 0, none⟩ (.int .i64 v) := ⟨_, rfl⟩
      have hcU : Chg (fun b => b = db) V U := by rw [hU]; exact setCell_chg _ _ _ _
      have Ud : Hid (Blk U db #[.int .i64 v, .int .i64 0, fv] 62) := show Blk U db #[.int .i64 v, .int .i64 0, fv] 62 from by rw [hU]; exact Vd.out.set 0 _
      have UR : Hid (Blk U rb #[.int .i64 0, .int .i64 0, .nilFunc] 62) := hcU.blk VR.out hnd
      have HCU : Hid (Chg (fun b => b = db) V U) := hcU
      have v0 : V.cell? ⟨db, 0, none⟩ = some (.int .i64 0) := Vd.out.cell 0
      have vf : V.frozen? ⟨db, 0, none⟩ = false := Vd.out.frozen 0
      go_upto_region 6 with fail
      rw [← hU]
      clear hU hcU v0 vf v1
      have d0 : U.cell? ⟨db, 0, none⟩ = some (.int .i64 v) := Ud.out.cell 0
      have d1 : U.cell? ⟨db, 1, none⟩ = some (.int .i64 0) := Ud.out.cell 1
      have d2 : U.cell? ⟨db, 2, none⟩ = some (fv) := Ud.out.cell 2
      have r0 : U.cell? ⟨rb, 0, none⟩ = some (.int .i64 0) := UR.out.cell 0
      have q0 : U.frozen? ⟨rb, 0, none⟩ = false := UR.out.frozen 0
      have r1 : U.cell? ⟨rb, 1, none⟩ = some (.int .i64 0) := UR.out.cell 1
      have q1 : U.frozen? ⟨rb, 1, none⟩ = false := UR.out.frozen 1
      have r2 : U.cell? ⟨rb, 2, none⟩ = some (.nilFunc) := UR.out.cell 2
      have q2 : U.frozen? ⟨rb, 2, none⟩ = false := UR.out.frozen 2
      obtain ⟨Z, hZ⟩ : ∃ Z, Z = (((U.setCell ⟨rb, 0, none⟩ (.int .i64 v)).setCell ⟨rb, 1, none⟩ (.int .i64 0)).setCell ⟨rb, 2, none⟩ (fv)) := ⟨_, rfl⟩
      have HZ : Hid (Blk Z rb #[.int .i64 v, .int .i64 0, fv] 62) := show Blk Z rb #[.int .i64 v, .int .i64 0, fv] 62 from by rw [hZ]; exact (Blk.set (Blk.set (Blk.set UR.out 0 (.int .i64 v)) 1 (.int .i64 0)) 2 (fv))
      have HCZ : Hid (Chg (fun b => b = rb) U Z) := show Chg (fun b => b = rb) U Z from by rw [hZ]; exact (((setCell_chg _ _ _ _).trans (setCell_chg _ _ _ _) (fun _ _ e => e)).trans (setCell_chg _ _ _ _) (fun _ _ e => e))
      have HBZ : Hid (Below w.heap.size w Z) := show Below w.heap.size w Z from by have h := HWV.out.trans (HCU.out.below HWV.out.size (fun k e => by have := HDL.out; omega)); exact h.trans (HCZ.out.below h.size (fun k e => by have := HLB.out.2; omega))
      go_wp2_with fail
      rw [← hZ]
      refine bodyPost_ret (results_cell_row Try.results53 _ _ rb 62 _ (0, 0) _ rfl HZ.out Try.underlying62 rfl (by kernel_rfl)) rfl ?_
      rw [HO.out]
      refine ⟨fv, rfl, hone, HBZ.out, fun _ => ?_⟩
      have hD : Doer X.heap.size (some hb) c.nm c.lim (c.val - a) c.held c.H fv w1 := by first | exact HDO.out trivial | exact HDO.out rfl
      have hcc : Chg (fun k => k = db ∨ k = rb) w1 Z := ((Chg.ofBelow _ HBV.out).trans HCU.out (fun _ _ e => Or.inl e)).trans HCZ.out (fun _ _ e => Or.inr e)
      exact hD.later (hcc.mono (B := fun k => k = rb) (fun k hk e => e.elim (fun e => absurd hk (by have := HDB.out; omega)) id)) HXS.out (fun k hk e => by have := Brb.out.lt; omega) (fun k hk => by cases hk; exact ⟨(HI1.out).lt, fun e => HI1.out.ne_b HR1.out e.symm⟩)
  · have HO : Hid (takeO v a c = ((0, 110), (c.lim, c.val, c.held, c.H))) := show _ = _ from by unfold takeO; rw [if_pos hv]
    have hvb : (c.val == v) = false := by simpa using hv
    clear hv
    go_enter Try.func53, Try.ntmps53
    go_upto_region 1 with fail
    rw [← hX, ← hrb, ← hcb]
    clear hX hcb hrb
    have x0 : X.cell? ⟨cb, 0, none⟩ = some (.string ⟨c.nm.toArray⟩) := Bcb.out.cell 0
    have x1 : X.cell? ⟨cb, 1, none⟩ = some (.int .i64 c.lim) := Bcb.out.cell 1
    have x2 : X.cell? ⟨cb, 2, none⟩ = some (.int .i64 c.val) := Bcb.out.cell 2
    have x3 : X.cell? ⟨cb, 3, none⟩ = some (.int .i64 c.held) := Bcb.out.cell 3
    have x4 : X.cell? ⟨cb, 4, none⟩ = some (.map (some hb)) := Bcb.out.cell 4
    go_wp2_with fail
    refine Calls.mono (refused_any 110 X) ?_
    rintro e9 w1 ⟨rfl, hb1⟩
    have hR1 : Blk w1 rb #[.int .i64 0, .int .i64 0, .nilFunc] 62 := Brb.out.below hb1 Brb.out.lt
    have r0 : w1.cell? ⟨rb, 0, none⟩ = some (.int .i64 0) := hR1.cell 0
    have q0 : w1.frozen? ⟨rb, 0, none⟩ = false := hR1.frozen 0
    have r1 : w1.cell? ⟨rb, 1, none⟩ = some (.int .i64 0) := hR1.cell 1
    have q1 : w1.frozen? ⟨rb, 1, none⟩ = false := hR1.frozen 1
    have r2 : w1.cell? ⟨rb, 2, none⟩ = some (.nilFunc) := hR1.cell 2
    have q2 : w1.frozen? ⟨rb, 2, none⟩ = false := hR1.frozen 2
    obtain ⟨Z, hZ⟩ : ∃ Z, Z = (((w1.setCell ⟨rb, 0, none⟩ (.int .i64 0)).setCell ⟨rb, 1, none⟩ (.int .i64 110)).setCell ⟨rb, 2, none⟩ (.nilFunc)) := ⟨_, rfl⟩
    have HZ : Hid (Blk Z rb #[.int .i64 0, .int .i64 110, .nilFunc] 62) := show Blk Z rb #[.int .i64 0, .int .i64 110, .nilFunc] 62 from by rw [hZ]; exact (Blk.set (Blk.set (Blk.set hR1 0 (.int .i64 0)) 1 (.int .i64 110)) 2 (.nilFunc))
    have HCZ : Hid (Chg (fun b => b = rb) w1 Z) := show Chg (fun b => b = rb) w1 Z from by rw [hZ]; exact (((setCell_chg _ _ _ _).trans (setCell_chg _ _ _ _) (fun _ _ e => e)).trans (setCell_chg _ _ _ _) (fun _ _ e => e))
    have HBZ : Hid (Below w.heap.size w Z) := show Below w.heap.size w Z from by have h := HBX.out.trans (hb1.mono HBX.out.size); exact h.trans (HCZ.out.below h.size (fun k e => by have := HLB.out.2; omega))
    clear hb1 hR1
    go_wp2_with fail
    rw [← hZ]
    refine bodyPost_ret (results_cell_row Try.results53 _ _ rb 62 _ (0, 0) _ rfl HZ.out Try.underlying62 rfl (by kernel_rfl)) rfl ?_
    rw [HO.out]
    exact ⟨.nilFunc, rfl, rfl, HBZ.out, fun h => absurd h (show ¬ (110 : Int) = 0 by decide)⟩
end Go.Proofs.Ytaiknlnjahjeiaa
