import Derived.Test.YtaiknlnjahjeiaaCl2
import Derived.Test.YtaiknlnjahjeiaaAc
import Derived.Deep.Cut
namespace Go.Proofs.Ytaiknlnjahjeiaa
open Go.RowKit Go.PlainAid Go.MapKept
set_option linter.unusedVariables false
set_option linter.unusedSimpArgs false
def incO (a : Int) (c : Ct) : Out := if c.lim < c.val + c.held + a then ((0, 60), (c.lim, c.val, c.held, c.H)) else ((0, 0), (c.lim, c.val + a, c.held, c.H))
def decO (a : Int) (c : Ct) : Out := if c.val < a then ((0, 60), (c.lim, c.val, c.held, c.H)) else ((0, 0), (c.lim, c.val - a, c.held, c.H))
def resetO (a : Int) (c : Ct) : Out := if c.lim < a + c.held then ((0, 61), (c.lim, c.val, c.held, c.H)) else ((a, 0), (c.lim, a, c.held, c.H))
def recapO (a : Int) (c : Ct) : Out := if a < c.val + c.held then ((0, 61), (c.lim, c.val, c.held, c.H)) else ((a, 0), (a, c.val, c.held, c.H))
def readO (c : Ct) : Out := ((c.val, 0), (c.lim, c.val, c.held, c.H))
def holdO (a q : Int) (c : Ct) : Out := if c.val < a then ((0, 60), (c.lim, c.val, c.held, c.H)) else if q < 1 ∨ (Gm.look q c.H).isSome = true then ((0, 1), (c.lim, c.val, c.held, c.H)) else ((q, 0), (c.lim, c.val - a, c.held + a, Gm.putM q a c.H))
def amt (q : Int) (c : Ct) : Int := (Gm.look q c.H).getD 0
def endO (k q : Int) (c : Ct) : Out := if amt q c = 0 then ((0, 70), (c.lim, c.val, c.held, c.H)) else ((if k = 12 then 0 else amt q c, 0), (c.lim, if k = 5 then c.val else c.val + amt q c, c.held - amt q c, Gm.putM q 0 c.H))
def takeO (v a : Int) (c : Ct) : Out := if c.val ≠ v then ((0, 110), (c.lim, c.val, c.held, c.H)) else if c.val < a then ((0, 60), (c.lim, c.val, c.held, c.H)) else ((v, 0), (c.lim, c.val - a, c.held, c.H))
theorem doer_plain {L0 K cb hb : Nat} {cs : Array Value} {c' : Ct} {w : World} (hE : ∀ args w, (callFunc K args).run Try.prog w = .ok (.enter K args) w) (hl : L0 ≤ cb) (hlt : cb < w.heap.size) (hI : HI w hb c'.H) (hhb : c'.hb = some hb) (hcb : hb ≠ cb)
    (hP : ∀ W, Since L0 (some hb) w W → Calls Try.prog K cs W fun e W' => e = .returned (ctV c') ∧ Chg (fun k => k = cb) W W') : Doer L0 (some hb) c'.nm c'.lim c'.val c'.held c'.H (.func (.func K) #[] cs) w := by
  refine ⟨K, cs, rfl, hE, fun W hb0 => (hP W hb0).mono ?_⟩
  rintro e W' ⟨rfl, hc⟩
  have hI2 : HI W hb c'.H := hb0.hi hI
  exact ⟨hb, by simp only [ctV, Ct.cs, hhb], hI2.same (hc.block _ hI2.lt hcb), Or.inl rfl, hc.mono (fun k _ e => Or.inr (e ▸ ⟨hl, hlt⟩))⟩
theorem doer_map {L0 K cb hb : Nat} {cs : Array Value} {c' : Ct} {w : World} (hE : ∀ args w, (callFunc K args).run Try.prog w = .ok (.enter K args) w) (hl : L0 ≤ cb) (hlt : cb < w.heap.size) (hhb : c'.hb = some hb)
    (hP : ∀ W, Since L0 (some hb) w W → Calls Try.prog K cs W fun e W' => e = .returned (ctV c') ∧ HI W' hb c'.H ∧ Chg (fun k => k = cb ∨ k = hb) W W') : Doer L0 (some hb) c'.nm c'.lim c'.val c'.held c'.H (.func (.func K) #[] cs) w := by
  refine ⟨K, cs, rfl, hE, fun W hb0 => (hP W hb0).mono ?_⟩
  rintro e W' ⟨rfl, hI, hc⟩
  exact ⟨hb, by simp only [ctV, Ct.cs, hhb], hI, Or.inl rfl, hc.mono (fun k _ e => e.elim (fun e => Or.inr (e ▸ ⟨hl, hlt⟩)) (fun e => Or.inl (by rw [e])))⟩
theorem blk_alloc {w : World} {b : Nat} {C : Array Value} {T : TypeId} (h : Blk w b C T) (o : Obj) : Blk (w.alloc o) b C T := (Below.heap_alloc _ _ _ h.lt).trans h
set_option maxRecDepth 100000 in
set_option maxHeartbeats 3200000 in
theorem inc_any {hb : Nat} {c : Ct} (a : Int) (w : World) (hI : HI w hb c.H) (hhb : c.hb = some hb) (h1 : IntKind.i64.wrap (c.val + c.held) = c.val + c.held) (h2 : IntKind.i64.wrap (c.val + c.held + a) = c.val + c.held + a) (h3 : IntKind.i64.wrap (c.val + a) = c.val + a) :
    Calls Try.prog 49 #[ctV c, .int .i64 a] w (PlPost (some hb) c.nm (incO a c) w) := by
  have hcv : ctV c = .agg #[.string ⟨c.nm.toArray⟩, .int .i64 c.lim, .int .i64 c.val, .int .i64 c.held, .map (some hb)] := by simp only [ctV, Ct.cs, hhb]
  have hcs : c.cs = #[.string ⟨c.nm.toArray⟩, .int .i64 c.lim, .int .i64 c.val, .int .i64 c.held, .map (some hb)] := by simp only [Ct.cs, hhb]
  rw [hcv]
  obtain ⟨cb, hcb⟩ : ∃ b, b = w.heap.size := ⟨_, rfl⟩
  obtain ⟨ab, hab⟩ : ∃ b, b = w.heap.size + 1 := ⟨_, rfl⟩
  obtain ⟨rb, hrb⟩ : ∃ b, b = w.heap.size + 1 + 1 := ⟨_, rfl⟩
  obtain ⟨X, hX⟩ : ∃ X, X = (((w.alloc (.cells #[.string ⟨c.nm.toArray⟩, .int .i64 c.lim, .int .i64 c.val, .int .i64 c.held, .map (some hb)] 67)).alloc (.cells #[.int .i64 a] 3)).alloc (.cells #[.int .i64 0, .int .i64 0, .nilFunc] 62)) := ⟨_, rfl⟩
  have hbX : Below w.heap.size w X := by rw [hX]; exact ((((Below.refl _ _).alloc (by first | exact Nat.le_refl _ | (simp; try omega)) _).alloc (by first | exact Nat.le_refl _ | (simp; try omega)) _).alloc (by first | exact Nat.le_refl _ | (simp; try omega)) _)
  have Bcb : Hid (Blk X cb #[.string ⟨c.nm.toArray⟩, .int .i64 c.lim, .int .i64 c.val, .int .i64 c.held, .map (some hb)] 67) := show Blk X cb #[.string ⟨c.nm.toArray⟩, .int .i64 c.lim, .int .i64 c.val, .int .i64 c.held, .map (some hb)] 67 from by rw [hX]; exact (blk_alloc (blk_alloc (show Blk (w.alloc (.cells #[.string ⟨c.nm.toArray⟩, .int .i64 c.lim, .int .i64 c.val, .int .i64 c.held, .map (some hb)] 67)) cb #[.string ⟨c.nm.toArray⟩, .int .i64 c.lim, .int .i64 c.val, .int .i64 c.held, .map (some hb)] 67 from by rw [hcb]; have h := heap_alloc_new w (.cells #[.string ⟨c.nm.toArray⟩, .int .i64 c.lim, .int .i64 c.val, .int .i64 c.held, .map (some hb)] 67); exact h) _) _)
  have Bab : Hid (Blk X ab #[.int .i64 a] 3) := show Blk X ab #[.int .i64 a] 3 from by rw [hX]; exact (blk_alloc (show Blk ((w.alloc (.cells #[.string ⟨c.nm.toArray⟩, .int .i64 c.lim, .int .i64 c.val, .int .i64 c.held, .map (some hb)] 67)).alloc (.cells #[.int .i64 a] 3)) ab #[.int .i64 a] 3 from by rw [hab]; have h := heap_alloc_new (w.alloc (.cells #[.string ⟨c.nm.toArray⟩, .int .i64 c.lim, .int .i64 c.val, .int .i64 c.held, .map (some hb)] 67)) (.cells #[.int .i64 a] 3); simp only [World.size_alloc] at h; exact h) _)
  have Brb : Hid (Blk X rb #[.int .i64 0, .int .i64 0, .nilFunc] 62) := show Blk X rb #[.int .i64 0, .int .i64 0, .nilFunc] 62 from by rw [hX]; exact (show Blk (((w.alloc (.cells #[.string ⟨c.nm.toArray⟩, .int .i64 c.lim, .int .i64 c.val, .int .i64 c.held, .map (some hb)] 67)).alloc (.cells #[.int .i64 a] 3)).alloc (.cells #[.int .i64 0, .int .i64 0, .nilFunc] 62)) rb #[.int .i64 0, .int .i64 0, .nilFunc] 62 from by rw [hrb]; have h := heap_alloc_new ((w.alloc (.cells #[.string ⟨c.nm.toArray⟩, .int .i64 c.lim, .int .i64 c.val, .int .i64 c.held, .map (some hb)] 67)).alloc (.cells #[.int .i64 a] 3)) (.cells #[.int .i64 0, .int .i64 0, .nilFunc] 62); simp only [World.size_alloc] at h; exact h)
  have HBX : Hid (Below w.heap.size w X) := hbX
  have HLB : Hid (w.heap.size ≤ cb ∧ w.heap.size ≤ rb) := ⟨by omega, by omega⟩
  have HLcb : Hid (w.heap.size ≤ cb) := show w.heap.size ≤ cb from by omega
  have HLab : Hid (w.heap.size ≤ ab) := show w.heap.size ≤ ab from by omega
  have HLrb : Hid (w.heap.size ≤ rb) := show w.heap.size ≤ rb from by omega
  have HIX : Hid (HI X hb c.H) := hI.same (hbX.block _ hI.lt)
  clear hbX hI hcv
  by_cases hq : c.lim < c.val + c.held + a
  · have HO : Hid (incO a c = ((0, 60), (c.lim, c.val, c.held, c.H))) := show _ = _ from by unfold incO; rw [if_pos hq]
    go_enter Try.func49, Try.ntmps49
    go_upto_region 1 with fail
    rw [← hX, ← hrb, ← hab, ← hcb]
    clear hX hcb hab hrb
    have x0 : X.cell? ⟨cb, 0, none⟩ = some (.string ⟨c.nm.toArray⟩) := Bcb.out.cell 0
    have x1 : X.cell? ⟨cb, 1, none⟩ = some (.int .i64 c.lim) := Bcb.out.cell 1
    have x2 : X.cell? ⟨cb, 2, none⟩ = some (.int .i64 c.val) := Bcb.out.cell 2
    have x3 : X.cell? ⟨cb, 3, none⟩ = some (.int .i64 c.held) := Bcb.out.cell 3
    have x4 : X.cell? ⟨cb, 4, none⟩ = some (.map (some hb)) := Bcb.out.cell 4
    have xa : X.cell? ⟨ab, 0, none⟩ = some (.int .i64 a) := Bab.out.cell 0
    go_wp2_with fail
    refine Calls.mono (refused_any 60 X) ?_
    rintro e9 w1 ⟨rfl, hb1⟩
    have hR1 : Blk w1 rb #[.int .i64 0, .int .i64 0, .nilFunc] 62 := Brb.out.below hb1 Brb.out.lt
    have r0 : w1.cell? ⟨rb, 0, none⟩ = some (.int .i64 0) := hR1.cell 0
    have q0 : w1.frozen? ⟨rb, 0, none⟩ = false := hR1.frozen 0
    have r1 : w1.cell? ⟨rb, 1, none⟩ = some (.int .i64 0) := hR1.cell 1
    have q1 : w1.frozen? ⟨rb, 1, none⟩ = false := hR1.frozen 1
    have r2 : w1.cell? ⟨rb, 2, none⟩ = some (.nilFunc) := hR1.cell 2
    have q2 : w1.frozen? ⟨rb, 2, none⟩ = false := hR1.frozen 2
    obtain ⟨Z, hZ⟩ : ∃ Z, Z = (((w1.setCell ⟨rb, 0, none⟩ (.int .i64 0)).setCell ⟨rb, 1, none⟩ (.int .i64 60)).setCell ⟨rb, 2, none⟩ (.nilFunc)) := ⟨_, rfl⟩
    have HZ : Hid (Blk Z rb #[.int .i64 0, .int .i64 60, .nilFunc] 62) := show Blk Z rb #[.int .i64 0, .int .i64 60, .nilFunc] 62 from by rw [hZ]; exact (Blk.set (Blk.set (Blk.set hR1 0 (.int .i64 0)) 1 (.int .i64 60)) 2 (.nilFunc))
    have HCZ : Hid (Chg (fun b => b = rb) w1 Z) := show Chg (fun b => b = rb) w1 Z from by rw [hZ]; exact (((setCell_chg _ _ _ _).trans (setCell_chg _ _ _ _) (fun _ _ e => e)).trans (setCell_chg _ _ _ _) (fun _ _ e => e))
    have HBZ : Hid (Below w.heap.size w Z) := show Below w.heap.size w Z from by have h := HBX.out.trans (hb1.mono HBX.out.size); exact h.trans (HCZ.out.below h.size (fun k e => by have := HLB.out.2; omega))
    clear hb1 hR1
    go_wp2_with fail
    rw [← hZ]
    refine bodyPost_ret (results_cell_row Try.results49 _ _ rb 62 _ (0, 0) _ rfl HZ.out Try.underlying62 rfl (by kernel_rfl)) rfl ?_
    rw [HO.out]
    exact ⟨.nilFunc, rfl, rfl, HBZ.out, fun h => absurd h (show ¬ (60 : Int) = 0 by decide)⟩
  · have HO : Hid (incO a c = ((0, 0), (c.lim, c.val + a, c.held, c.H))) := show _ = _ from by unfold incO; rw [if_neg hq]
    go_enter Try.func49, Try.ntmps49
    go_upto_region 1 with fail
    rw [← hX, ← hrb, ← hab, ← hcb]
    clear hX hcb hab hrb
    have x0 : X.cell? ⟨cb, 0, none⟩ = some (.string ⟨c.nm.toArray⟩) := Bcb.out.cell 0
    have x1 : X.cell? ⟨cb, 1, none⟩ = some (.int .i64 c.lim) := Bcb.out.cell 1
    have x2 : X.cell? ⟨cb, 2, none⟩ = some (.int .i64 c.val) := Bcb.out.cell 2
    have x3 : X.cell? ⟨cb, 3, none⟩ = some (.int .i64 c.held) := Bcb.out.cell 3
    have x4 : X.cell? ⟨cb, 4, none⟩ = some (.map (some hb)) := Bcb.out.cell 4
    have xa : X.cell? ⟨ab, 0, none⟩ = some (.int .i64 a) := Bab.out.cell 0
    have r0 : X.cell? ⟨rb, 0, none⟩ = some (.int .i64 0) := Brb.out.cell 0
    have q0 : X.frozen? ⟨rb, 0, none⟩ = false := Brb.out.frozen 0
    have r1 : X.cell? ⟨rb, 1, none⟩ = some (.int .i64 0) := Brb.out.cell 1
    have q1 : X.frozen? ⟨rb, 1, none⟩ = false := Brb.out.frozen 1
    have r2 : X.cell? ⟨rb, 2, none⟩ = some (.nilFunc) := Brb.out.cell 2
    have q2 : X.frozen? ⟨rb, 2, none⟩ = false := Brb.out.frozen 2
    obtain ⟨Z, hZ⟩ : ∃ Z, Z = (((X.setCell ⟨rb, 0, none⟩ (.int .i64 0)).setCell ⟨rb, 1, none⟩ (.int .i64 0)).setCell ⟨rb, 2, none⟩ (.func (.func 65) #[] #[.pointer (some ⟨cb, 0, none⟩), .pointer (some ⟨ab, 0, none⟩)])) := ⟨_, rfl⟩
    have HZ : Hid (Blk Z rb #[.int .i64 0, .int .i64 0, .func (.func 65) #[] #[.pointer (some ⟨cb, 0, none⟩), .pointer (some ⟨ab, 0, none⟩)]] 62) := show Blk Z rb #[.int .i64 0, .int .i64 0, .func (.func 65) #[] #[.pointer (some ⟨cb, 0, none⟩), .pointer (some ⟨ab, 0, none⟩)]] 62 from by rw [hZ]; exact (Blk.set (Blk.set (Blk.set Brb.out 0 (.int .i64 0)) 1 (.int .i64 0)) 2 (.func (.func 65) #[] #[.pointer (some ⟨cb, 0, none⟩), .pointer (some ⟨ab, 0, none⟩)]))
    have HCZ : Hid (Chg (fun b => b = rb) X Z) := show Chg (fun b => b = rb) X Z from by rw [hZ]; exact (((setCell_chg _ _ _ _).trans (setCell_chg _ _ _ _) (fun _ _ e => e)).trans (setCell_chg _ _ _ _) (fun _ _ e => e))
    have HBZ : Hid (Below w.heap.size w Z) := show Below w.heap.size w Z from by have h := HBX.out; exact h.trans (HCZ.out.below h.size (fun k e => by have := HLB.out.2; omega))
    have hmf' := hmf
    go_wp2_with fail
    rw [← hZ]
    refine bodyPost_ret (results_cell_row Try.results49 _ _ rb 62 _ (0, 0) _ rfl HZ.out Try.underlying62 rfl (by kernel_rfl)) rfl ?_
    rw [HO.out]
    refine ⟨_, rfl, rfl, HBZ.out, fun _ => ?_⟩
    have kcb : Blk Z cb #[.string ⟨c.nm.toArray⟩, .int .i64 c.lim, .int .i64 c.val, .int .i64 c.held, .map (some hb)] 67 := HCZ.out.blk Bcb.out (Blk.ne_t Bcb.out Brb.out (by decide))
    have ka : Blk Z ab #[.int .i64 a] 3 := HCZ.out.blk Bab.out (Blk.ne_t Bab.out Brb.out (by decide))
    have kI : HI Z hb c.H := HIX.out.same (HCZ.out.block _ HIX.out.lt (fun e => HIX.out.ne_b Brb.out e.symm))
    exact doer_plain (c' := { c with val := c.val + a }) (fun args w => by simp [go_sem]) HLB.out.1 kcb.lt kI hhb (fun e => kI.ne_b kcb e.symm) (fun W h => inc1_any a W (h.blk (show Blk _ cb c.cs 67 from hcs ▸ kcb) HLcb.out) (h.blk ka HLab.out) h3)
set_option maxRecDepth 100000 in
set_option maxHeartbeats 3200000 in
theorem dec_any {hb : Nat} {c : Ct} (a : Int) (w : World) (hI : HI w hb c.H) (hhb : c.hb = some hb) (h3 : IntKind.i64.wrap (c.val - a) = c.val - a) :
    Calls Try.prog 50 #[ctV c, .int .i64 a] w (PlPost (some hb) c.nm (decO a c) w) := by
  have hcv : ctV c = .agg #[.string ⟨c.nm.toArray⟩, .int .i64 c.lim, .int .i64 c.val, .int .i64 c.held, .map (some hb)] := by simp only [ctV, Ct.cs, hhb]
  have hcs : c.cs = #[.string ⟨c.nm.toArray⟩, .int .i64 c.lim, .int .i64 c.val, .int .i64 c.held, .map (some hb)] := by simp only [Ct.cs, hhb]
  rw [hcv]
  obtain ⟨cb, hcb⟩ : ∃ b, b = w.heap.size := ⟨_, rfl⟩
  obtain ⟨ab, hab⟩ : ∃ b, b = w.heap.size + 1 := ⟨_, rfl⟩
  obtain ⟨rb, hrb⟩ : ∃ b, b = w.heap.size + 1 + 1 := ⟨_, rfl⟩
  obtain ⟨X, hX⟩ : ∃ X, X = (((w.alloc (.cells #[.string ⟨c.nm.toArray⟩, .int .i64 c.lim, .int .i64 c.val, .int .i64 c.held, .map (some hb)] 67)).alloc (.cells #[.int .i64 a] 3)).alloc (.cells #[.int .i64 0, .int .i64 0, .nilFunc] 62)) := ⟨_, rfl⟩
  have hbX : Below w.heap.size w X := by rw [hX]; exact ((((Below.refl _ _).alloc (by first | exact Nat.le_refl _ | (simp; try omega)) _).alloc (by first | exact Nat.le_refl _ | (simp; try omega)) _).alloc (by first | exact Nat.le_refl _ | (simp; try omega)) _)
  have Bcb : Hid (Blk X cb #[.string ⟨c.nm.toArray⟩, .int .i64 c.lim, .int .i64 c.val, .int .i64 c.held, .map (some hb)] 67) := show Blk X cb #[.string ⟨c.nm.toArray⟩, .int .i64 c.lim, .int .i64 c.val, .int .i64 c.held, .map (some hb)] 67 from by rw [hX]; exact (blk_alloc (blk_alloc (show Blk (w.alloc (.cells #[.string ⟨c.nm.toArray⟩, .int .i64 c.lim, .int .i64 c.val, .int .i64 c.held, .map (some hb)] 67)) cb #[.string ⟨c.nm.toArray⟩, .int .i64 c.lim, .int .i64 c.val, .int .i64 c.held, .map (some hb)] 67 from by rw [hcb]; have h := heap_alloc_new w (.cells #[.string ⟨c.nm.toArray⟩, .int .i64 c.lim, .int .i64 c.val, .int .i64 c.held, .map (some hb)] 67); exact h) _) _)
  have Bab : Hid (Blk X ab #[.int .i64 a] 3) := show Blk X ab #[.int .i64 a] 3 from by rw [hX]; exact (blk_alloc (show Blk ((w.alloc (.cells #[.string ⟨c.nm.toArray⟩, .int .i64 c.lim, .int .i64 c.val, .int .i64 c.held, .map (some hb)] 67)).alloc (.cells #[.int .i64 a] 3)) ab #[.int .i64 a] 3 from by rw [hab]; have h := heap_alloc_new (w.alloc (.cells #[.string ⟨c.nm.toArray⟩, .int .i64 c.lim, .int .i64 c.val, .int .i64 c.held, .map (some hb)] 67)) (.cells #[.int .i64 a] 3); simp only [World.size_alloc] at h; exact h) _)
  have Brb : Hid (Blk X rb #[.int .i64 0, .int .i64 0, .nilFunc] 62) := show Blk X rb #[.int .i64 0, .int .i64 0, .nilFunc] 62 from by rw [hX]; exact (show Blk (((w.alloc (.cells #[.string ⟨c.nm.toArray⟩, .int .i64 c.lim, .int .i64 c.val, .int .i64 c.held, .map (some hb)] 67)).alloc (.cells #[.int .i64 a] 3)).alloc (.cells #[.int .i64 0, .int .i64 0, .nilFunc] 62)) rb #[.int .i64 0, .int .i64 0, .nilFunc] 62 from by rw [hrb]; have h := heap_alloc_new ((w.alloc (.cells #[.string ⟨c.nm.toArray⟩, .int .i64 c.lim, .int .i64 c.val, .int .i64 c.held, .map (some hb)] 67)).alloc (.cells #[.int .i64 a] 3)) (.cells #[.int .i64 0, .int .i64 0, .nilFunc] 62); simp only [World.size_alloc] at h; exact h)
  have HBX : Hid (Below w.heap.size w X) := hbX
  have HLB : Hid (w.heap.size ≤ cb ∧ w.heap.size ≤ rb) := ⟨by omega, by omega⟩
  have HLcb : Hid (w.heap.size ≤ cb) := show w.heap.size ≤ cb from by omega
  have HLab : Hid (w.heap.size ≤ ab) := show w.heap.size ≤ ab from by omega
  have HLrb : Hid (w.heap.size ≤ rb) := show w.heap.size ≤ rb from by omega
  have HIX : Hid (HI X hb c.H) := hI.same (hbX.block _ hI.lt)
  clear hbX hI hcv
  by_cases hq : c.val < a
  · have HO : Hid (decO a c = ((0, 60), (c.lim, c.val, c.held, c.H))) := show _ = _ from by unfold decO; rw [if_pos hq]
    go_enter Try.func50, Try.ntmps50
    go_upto_region 1 with fail
    rw [← hX, ← hrb, ← hab, ← hcb]
    clear hX hcb hab hrb
    have x0 : X.cell? ⟨cb, 0, none⟩ = some (.string ⟨c.nm.toArray⟩) := Bcb.out.cell 0
    have x1 : X.cell? ⟨cb, 1, none⟩ = some (.int .i64 c.lim) := Bcb.out.cell 1
    have x2 : X.cell? ⟨cb, 2, none⟩ = some (.int .i64 c.val) := Bcb.out.cell 2
    have x3 : X.cell? ⟨cb, 3, none⟩ = some (.int .i64 c.held) := Bcb.out.cell 3
    have x4 : X.cell? ⟨cb, 4, none⟩ = some (.map (some hb)) := Bcb.out.cell 4
    have xa : X.cell? ⟨ab, 0, none⟩ = some (.int .i64 a) := Bab.out.cell 0
    go_wp2_with fail
    refine Calls.mono (refused_any 60 X) ?_
    rintro e9 w1 ⟨rfl, hb1⟩
    have hR1 : Blk w1 rb #[.int .i64 0, .int .i64 0, .nilFunc] 62 := Brb.out.below hb1 Brb.out.lt
    have r0 : w1.cell? ⟨rb, 0, none⟩ = some (.int .i64 0) := hR1.cell 0
    have q0 : w1.frozen? ⟨rb, 0, none⟩ = false := hR1.frozen 0
    have r1 : w1.cell? ⟨rb, 1, none⟩ = some (.int .i64 0) := hR1.cell 1
    have q1 : w1.frozen? ⟨rb, 1, none⟩ = false := hR1.frozen 1
    have r2 : w1.cell? ⟨rb, 2, none⟩ = some (.nilFunc) := hR1.cell 2
    have q2 : w1.frozen? ⟨rb, 2, none⟩ = false := hR1.frozen 2
    obtain ⟨Z, hZ⟩ : ∃ Z, Z = (((w1.setCell ⟨rb, 0, none⟩ (.int .i64 0)).setCell ⟨rb, 1, none⟩ (.int .i64 60)).setCell ⟨rb, 2, none⟩ (.nilFunc)) := ⟨_, rfl⟩
    have HZ : Hid (Blk Z rb #[.int .i64 0, .int .i64 60, .nilFunc] 62) := show Blk Z rb #[.int .i64 0, .int .i64 60, .nilFunc] 62 from by rw [hZ]; exact (Blk.set (Blk.set (Blk.set hR1 0 (.int .i64 0)) 1 (.int .i64 60)) 2 (.nilFunc))
    have HCZ : Hid (Chg (fun b => b = rb) w1 Z) := show Chg (fun b => b = rb) w1 Z from by rw [hZ]; exact (((setCell_chg _ _ _ _).trans (setCell_chg _ _ _ _) (fun _ _ e => e)).trans (setCell_chg _ _ _ _) (fun _ _ e => e))
    have HBZ : Hid (Below w.heap.size w Z) := show Below w.heap.size w Z from by have h := HBX.out.trans (hb1.mono HBX.out.size); exact h.trans (HCZ.out.below h.size (fun k e => by have := HLB.out.2; omega))
    clear hb1 hR1
    go_wp2_with fail
    rw [← hZ]
    refine bodyPost_ret (results_cell_row Try.results50 _ _ rb 62 _ (0, 0) _ rfl HZ.out Try.underlying62 rfl (by kernel_rfl)) rfl ?_
    rw [HO.out]
    exact ⟨.nilFunc, rfl, rfl, HBZ.out, fun h => absurd h (show ¬ (60 : Int) = 0 by decide)⟩
  · have HO : Hid (decO a c = ((0, 0), (c.lim, c.val - a, c.held, c.H))) := show _ = _ from by unfold decO; rw [if_neg hq]
    go_enter Try.func50, Try.ntmps50
    go_upto_region 1 with fail
    rw [← hX, ← hrb, ← hab, ← hcb]
    clear hX hcb hab hrb
    have x0 : X.cell? ⟨cb, 0, none⟩ = some (.string ⟨c.nm.toArray⟩) := Bcb.out.cell 0
    have x1 : X.cell? ⟨cb, 1, none⟩ = some (.int .i64 c.lim) := Bcb.out.cell 1
    have x2 : X.cell? ⟨cb, 2, none⟩ = some (.int .i64 c.val) := Bcb.out.cell 2
    have x3 : X.cell? ⟨cb, 3, none⟩ = some (.int .i64 c.held) := Bcb.out.cell 3
    have x4 : X.cell? ⟨cb, 4, none⟩ = some (.map (some hb)) := Bcb.out.cell 4
    have xa : X.cell? ⟨ab, 0, none⟩ = some (.int .i64 a) := Bab.out.cell 0
    have r0 : X.cell? ⟨rb, 0, none⟩ = some (.int .i64 0) := Brb.out.cell 0
    have q0 : X.frozen? ⟨rb, 0, none⟩ = false := Brb.out.frozen 0
    have r1 : X.cell? ⟨rb, 1, none⟩ = some (.int .i64 0) := Brb.out.cell 1
    have q1 : X.frozen? ⟨rb, 1, none⟩ = false := Brb.out.frozen 1
    have r2 : X.cell? ⟨rb, 2, none⟩ = some (.nilFunc) := Brb.out.cell 2
    have q2 : X.frozen? ⟨rb, 2, none⟩ = false := Brb.out.frozen 2
    obtain ⟨Z, hZ⟩ : ∃ Z, Z = (((X.setCell ⟨rb, 0, none⟩ (.int .i64 0)).setCell ⟨rb, 1, none⟩ (.int .i64 0)).setCell ⟨rb, 2, none⟩ (.func (.func 66) #[] #[.pointer (some ⟨cb, 0, none⟩), .pointer (some ⟨ab, 0, none⟩)])) := ⟨_, rfl⟩
    have HZ : Hid (Blk Z rb #[.int .i64 0, .int .i64 0, .func (.func 66) #[] #[.pointer (some ⟨cb, 0, none⟩), .pointer (some ⟨ab, 0, none⟩)]] 62) := show Blk Z rb #[.int .i64 0, .int .i64 0, .func (.func 66) #[] #[.pointer (some ⟨cb, 0, none⟩), .pointer (some ⟨ab, 0, none⟩)]] 62 from by rw [hZ]; exact (Blk.set (Blk.set (Blk.set Brb.out 0 (.int .i64 0)) 1 (.int .i64 0)) 2 (.func (.func 66) #[] #[.pointer (some ⟨cb, 0, none⟩), .pointer (some ⟨ab, 0, none⟩)]))
    have HCZ : Hid (Chg (fun b => b = rb) X Z) := show Chg (fun b => b = rb) X Z from by rw [hZ]; exact (((setCell_chg _ _ _ _).trans (setCell_chg _ _ _ _) (fun _ _ e => e)).trans (setCell_chg _ _ _ _) (fun _ _ e => e))
    have HBZ : Hid (Below w.heap.size w Z) := show Below w.heap.size w Z from by have h := HBX.out; exact h.trans (HCZ.out.below h.size (fun k e => by have := HLB.out.2; omega))
    have hmf' := hmf
    go_wp2_with fail
    rw [← hZ]
    refine bodyPost_ret (results_cell_row Try.results50 _ _ rb 62 _ (0, 0) _ rfl HZ.out Try.underlying62 rfl (by kernel_rfl)) rfl ?_
    rw [HO.out]
    refine ⟨_, rfl, rfl, HBZ.out, fun _ => ?_⟩
    have kcb : Blk Z cb #[.string ⟨c.nm.toArray⟩, .int .i64 c.lim, .int .i64 c.val, .int .i64 c.held, .map (some hb)] 67 := HCZ.out.blk Bcb.out (Blk.ne_t Bcb.out Brb.out (by decide))
    have ka : Blk Z ab #[.int .i64 a] 3 := HCZ.out.blk Bab.out (Blk.ne_t Bab.out Brb.out (by decide))
    have kI : HI Z hb c.H := HIX.out.same (HCZ.out.block _ HIX.out.lt (fun e => HIX.out.ne_b Brb.out e.symm))
    exact doer_plain (c' := { c with val := c.val - a }) (fun args w => by simp [go_sem]) HLB.out.1 kcb.lt kI hhb (fun e => kI.ne_b kcb e.symm) (fun W h => dec1_any a W (h.blk (show Blk _ cb c.cs 67 from hcs ▸ kcb) HLcb.out) (h.blk ka HLab.out) h3)
set_option maxRecDepth 100000 in
set_option maxHeartbeats 3200000 in
theorem reset_any {hb : Nat} {c : Ct} (a : Int) (w : World) (hI : HI w hb c.H) (hhb : c.hb = some hb) (h3 : IntKind.i64.wrap (a + c.held) = a + c.held) :
    Calls Try.prog 54 #[ctV c, .int .i64 a] w (PlPost (some hb) c.nm (resetO a c) w) := by
  have hcv : ctV c = .agg #[.string ⟨c.nm.toArray⟩, .int .i64 c.lim, .int .i64 c.val, .int .i64 c.held, .map (some hb)] := by simp only [ctV, Ct.cs, hhb]
  have hcs : c.cs = #[.string ⟨c.nm.toArray⟩, .int .i64 c.lim, .int .i64 c.val, .int .i64 c.held, .map (some hb)] := by simp only [Ct.cs, hhb]
  rw [hcv]
  obtain ⟨cb, hcb⟩ : ∃ b, b = w.heap.size := ⟨_, rfl⟩
  obtain ⟨ab, hab⟩ : ∃ b, b = w.heap.size + 1 := ⟨_, rfl⟩
  obtain ⟨rb, hrb⟩ : ∃ b, b = w.heap.size + 1 + 1 := ⟨_, rfl⟩
  obtain ⟨X, hX⟩ : ∃ X, X = (((w.alloc (.cells #[.string ⟨c.nm.toArray⟩, .int .i64 c.lim, .int .i64 c.val, .int .i64 c.held, .map (some hb)] 67)).alloc (.cells #[.int .i64 a] 3)).alloc (.cells #[.int .i64 0, .int .i64 0, .nilFunc] 62)) := ⟨_, rfl⟩
  have hbX : Below w.heap.size w X := by rw [hX]; exact ((((Below.refl _ _).alloc (by first | exact Nat.le_refl _ | (simp; try omega)) _).alloc (by first | exact Nat.le_refl _ | (simp; try omega)) _).alloc (by first | exact Nat.le_refl _ | (simp; try omega)) _)
  have Bcb : Hid (Blk X cb #[.string ⟨c.nm.toArray⟩, .int .i64 c.lim, .int .i64 c.val, .int .i64 c.held, .map (some hb)] 67) := show Blk X cb #[.string ⟨c.nm.toArray⟩, .int .i64 c.lim, .int .i64 c.val, .int .i64 c.held, .map (some hb)] 67 from by rw [hX]; exact (blk_alloc (blk_alloc (show Blk (w.alloc (.cells #[.string ⟨c.nm.toArray⟩, .int .i64 c.lim, .int .i64 c.val, .int .i64 c.held, .map (some hb)] 67)) cb #[.string ⟨c.nm.toArray⟩, .int .i64 c.lim, .int .i64 c.val, .int .i64 c.held, .map (some hb)] 67 from by rw [hcb]; have h := heap_alloc_new w (.cells #[.string ⟨c.nm.toArray⟩, .int .i64 c.lim, .int .i64 c.val, .int .i64 c.held, .map (some hb)] 67); exact h) _) _)
  have Bab : Hid (Blk X ab #[.int .i64 a] 3) := show Blk X ab #[.int .i64 a] 3 from by rw [hX]; exact (blk_alloc (show Blk ((w.alloc (.cells #[.string ⟨c.nm.toArray⟩, .int .i64 c.lim, .int .i64 c.val, .int .i64 c.held, .map (some hb)] 67)).alloc (.cells #[.int .i64 a] 3)) ab #[.int .i64 a] 3 from by rw [hab]; have h := heap_alloc_new (w.alloc (.cells #[.string ⟨c.nm.toArray⟩, .int .i64 c.lim, .int .i64 c.val, .int .i64 c.held, .map (some hb)] 67)) (.cells #[.int .i64 a] 3); simp only [World.size_alloc] at h; exact h) _)
  have Brb : Hid (Blk X rb #[.int .i64 0, .int .i64 0, .nilFunc] 62) := show Blk X rb #[.int .i64 0, .int .i64 0, .nilFunc] 62 from by rw [hX]; exact (show Blk (((w.alloc (.cells #[.string ⟨c.nm.toArray⟩, .int .i64 c.lim, .int .i64 c.val, .int .i64 c.held, .map (some hb)] 67)).alloc (.cells #[.int .i64 a] 3)).alloc (.cells #[.int .i64 0, .int .i64 0, .nilFunc] 62)) rb #[.int .i64 0, .int .i64 0, .nilFunc] 62 from by rw [hrb]; have h := heap_alloc_new ((w.alloc (.cells #[.string ⟨c.nm.toArray⟩, .int .i64 c.lim, .int .i64 c.val, .int .i64 c.held, .map (some hb)] 67)).alloc (.cells #[.int .i64 a] 3)) (.cells #[.int .i64 0, .int .i64 0, .nilFunc] 62); simp only [World.size_alloc] at h; exact h)
  have HBX : Hid (Below w.heap.size w X) := hbX
  have HLB : Hid (w.heap.size ≤ cb ∧ w.heap.size ≤ rb) := ⟨by omega, by omega⟩
  have HLcb : Hid (w.heap.size ≤ cb) := show w.heap.size ≤ cb from by omega
  have HLab : Hid (w.heap.size ≤ ab) := show w.heap.size ≤ ab from by omega
  have HLrb : Hid (w.heap.size ≤ rb) := show w.heap.size ≤ rb from by omega
  have HIX : Hid (HI X hb c.H) := hI.same (hbX.block _ hI.lt)
  clear hbX hI hcv
  by_cases hq : c.lim < a + c.held
  · have HO : Hid (resetO a c = ((0, 61), (c.lim, c.val, c.held, c.H))) := show _ = _ from by unfold resetO; rw [if_pos hq]
    go_enter Try.func54, Try.ntmps54
    go_upto_region 1 with fail
    rw [← hX, ← hrb, ← hab, ← hcb]
    clear hX hcb hab hrb
    have x0 : X.cell? ⟨cb, 0, none⟩ = some (.string ⟨c.nm.toArray⟩) := Bcb.out.cell 0
    have x1 : X.cell? ⟨cb, 1, none⟩ = some (.int .i64 c.lim) := Bcb.out.cell 1
    have x2 : X.cell? ⟨cb, 2, none⟩ = some (.int .i64 c.val) := Bcb.out.cell 2
    have x3 : X.cell? ⟨cb, 3, none⟩ = some (.int .i64 c.held) := Bcb.out.cell 3
    have x4 : X.cell? ⟨cb, 4, none⟩ = some (.map (some hb)) := Bcb.out.cell 4
    have xa : X.cell? ⟨ab, 0, none⟩ = some (.int .i64 a) := Bab.out.cell 0
    go_wp2_with fail
    refine Calls.mono (refused_any 61 X) ?_
    rintro e9 w1 ⟨rfl, hb1⟩
    have hR1 : Blk w1 rb #[.int .i64 0, .int .i64 0, .nilFunc] 62 := Brb.out.below hb1 Brb.out.lt
    have r0 : w1.cell? ⟨rb, 0, none⟩ = some (.int .i64 0) := hR1.cell 0
    have q0 : w1.frozen? ⟨rb, 0, none⟩ = false := hR1.frozen 0
    have r1 : w1.cell? ⟨rb, 1, none⟩ = some (.int .i64 0) := hR1.cell 1
    have q1 : w1.frozen? ⟨rb, 1, none⟩ = false := hR1.frozen 1
    have r2 : w1.cell? ⟨rb, 2, none⟩ = some (.nilFunc) := hR1.cell 2
    have q2 : w1.frozen? ⟨rb, 2, none⟩ = false := hR1.frozen 2
    obtain ⟨Z, hZ⟩ : ∃ Z, Z = (((w1.setCell ⟨rb, 0, none⟩ (.int .i64 0)).setCell ⟨rb, 1, none⟩ (.int .i64 61)).setCell ⟨rb, 2, none⟩ (.nilFunc)) := ⟨_, rfl⟩
    have HZ : Hid (Blk Z rb #[.int .i64 0, .int .i64 61, .nilFunc] 62) := show Blk Z rb #[.int .i64 0, .int .i64 61, .nilFunc] 62 from by rw [hZ]; exact (Blk.set (Blk.set (Blk.set hR1 0 (.int .i64 0)) 1 (.int .i64 61)) 2 (.nilFunc))
    have HCZ : Hid (Chg (fun b => b = rb) w1 Z) := show Chg (fun b => b = rb) w1 Z from by rw [hZ]; exact (((setCell_chg _ _ _ _).trans (setCell_chg _ _ _ _) (fun _ _ e => e)).trans (setCell_chg _ _ _ _) (fun _ _ e => e))
    have HBZ : Hid (Below w.heap.size w Z) := show Below w.heap.size w Z from by have h := HBX.out.trans (hb1.mono HBX.out.size); exact h.trans (HCZ.out.below h.size (fun k e => by have := HLB.out.2; omega))
    clear hb1 hR1
    go_wp2_with fail
    rw [← hZ]
    refine bodyPost_ret (results_cell_row Try.results54 _ _ rb 62 _ (0, 0) _ rfl HZ.out Try.underlying62 rfl (by kernel_rfl)) rfl ?_
    rw [HO.out]
    exact ⟨.nilFunc, rfl, rfl, HBZ.out, fun h => absurd h (show ¬ (61 : Int) = 0 by decide)⟩
  · have HO : Hid (resetO a c = ((a, 0), (c.lim, a, c.held, c.H))) := show _ = _ from by unfold resetO; rw [if_neg hq]
    go_enter Try.func54, Try.ntmps54
    go_upto_region 1 with fail
    rw [← hX, ← hrb, ← hab, ← hcb]
    clear hX hcb hab hrb
    have x0 : X.cell? ⟨cb, 0, none⟩ = some (.string ⟨c.nm.toArray⟩) := Bcb.out.cell 0
    have x1 : X.cell? ⟨cb, 1, none⟩ = some (.int .i64 c.lim) := Bcb.out.cell 1
    have x2 : X.cell? ⟨cb, 2, none⟩ = some (.int .i64 c.val) := Bcb.out.cell 2
    have x3 : X.cell? ⟨cb, 3, none⟩ = some (.int .i64 c.held) := Bcb.out.cell 3
    have x4 : X.cell? ⟨cb, 4, none⟩ = some (.map (some hb)) := Bcb.out.cell 4
    have xa : X.cell? ⟨ab, 0, none⟩ = some (.int .i64 a) := Bab.out.cell 0
    have r0 : X.cell? ⟨rb, 0, none⟩ = some (.int .i64 0) := Brb.out.cell 0
    have q0 : X.frozen? ⟨rb, 0, none⟩ = false := Brb.out.frozen 0
    have r1 : X.cell? ⟨rb, 1, none⟩ = some (.int .i64 0) := Brb.out.cell 1
    have q1 : X.frozen? ⟨rb, 1, none⟩ = false := Brb.out.frozen 1
    have r2 : X.cell? ⟨rb, 2, none⟩ = some (.nilFunc) := Brb.out.cell 2
    have q2 : X.frozen? ⟨rb, 2, none⟩ = false := Brb.out.frozen 2
    obtain ⟨Z, hZ⟩ : ∃ Z, Z = (((X.setCell ⟨rb, 0, none⟩ (.int .i64 a)).setCell ⟨rb, 1, none⟩ (.int .i64 0)).setCell ⟨rb, 2, none⟩ (.func (.func 69) #[] #[.pointer (some ⟨ab, 0, none⟩), .pointer (some ⟨cb, 0, none⟩)])) := ⟨_, rfl⟩
    have HZ : Hid (Blk Z rb #[.int .i64 a, .int .i64 0, .func (.func 69) #[] #[.pointer (some ⟨ab, 0, none⟩), .pointer (some ⟨cb, 0, none⟩)]] 62) := show Blk Z rb #[.int .i64 a, .int .i64 0, .func (.func 69) #[] #[.pointer (some ⟨ab, 0, none⟩), .pointer (some ⟨cb, 0, none⟩)]] 62 from by rw [hZ]; exact (Blk.set (Blk.set (Blk.set Brb.out 0 (.int .i64 a)) 1 (.int .i64 0)) 2 (.func (.func 69) #[] #[.pointer (some ⟨ab, 0, none⟩), .pointer (some ⟨cb, 0, none⟩)]))
    have HCZ : Hid (Chg (fun b => b = rb) X Z) := show Chg (fun b => b = rb) X Z from by rw [hZ]; exact (((setCell_chg _ _ _ _).trans (setCell_chg _ _ _ _) (fun _ _ e => e)).trans (setCell_chg _ _ _ _) (fun _ _ e => e))
    have HBZ : Hid (Below w.heap.size w Z) := show Below w.heap.size w Z from by have h := HBX.out; exact h.trans (HCZ.out.below h.size (fun k e => by have := HLB.out.2; omega))
    have hmf' := hmf
    go_wp2_with fail
    rw [← hZ]
    refine bodyPost_ret (results_cell_row Try.results54 _ _ rb 62 _ (0, 0) _ rfl HZ.out Try.underlying62 rfl (by kernel_rfl)) rfl ?_
    rw [HO.out]
    refine ⟨_, rfl, rfl, HBZ.out, fun _ => ?_⟩
    have kcb : Blk Z cb #[.string ⟨c.nm.toArray⟩, .int .i64 c.lim, .int .i64 c.val, .int .i64 c.held, .map (some hb)] 67 := HCZ.out.blk Bcb.out (Blk.ne_t Bcb.out Brb.out (by decide))
    have ka : Blk Z ab #[.int .i64 a] 3 := HCZ.out.blk Bab.out (Blk.ne_t Bab.out Brb.out (by decide))
    have kI : HI Z hb c.H := HIX.out.same (HCZ.out.block _ HIX.out.lt (fun e => HIX.out.ne_b Brb.out e.symm))
    exact doer_plain (c' := { c with val := a }) (fun args w => by simp [go_sem]) HLB.out.1 kcb.lt kI hhb (fun e => kI.ne_b kcb e.symm) (fun W h => reset1_any a W (h.blk (show Blk _ cb c.cs 67 from hcs ▸ kcb) HLcb.out) (h.blk ka HLab.out))
set_option maxRecDepth 100000 in
set_option maxHeartbeats 3200000 in
theorem recap_any {hb : Nat} {c : Ct} (a : Int) (w : World) (hI : HI w hb c.H) (hhb : c.hb = some hb) (h3 : IntKind.i64.wrap (c.val + c.held) = c.val + c.held) :
    Calls Try.prog 55 #[ctV c, .int .i64 a] w (PlPost (some hb) c.nm (recapO a c) w) := by
  have hcv : ctV c = .agg #[.string ⟨c.nm.toArray⟩, .int .i64 c.lim, .int .i64 c.val, .int .i64 c.held, .map (some hb)] := by simp only [ctV, Ct.cs, hhb]
  have hcs : c.cs = #[.string ⟨c.nm.toArray⟩, .int .i64 c.lim, .int .i64 c.val, .int .i64 c.held, .map (some hb)] := by simp only [Ct.cs, hhb]
  rw [hcv]
  obtain ⟨cb, hcb⟩ : ∃ b, b = w.heap.size := ⟨_, rfl⟩
  obtain ⟨ab, hab⟩ : ∃ b, b = w.heap.size + 1 := ⟨_, rfl⟩
  obtain ⟨rb, hrb⟩ : ∃ b, b = w.heap.size + 1 + 1 := ⟨_, rfl⟩
  obtain ⟨X, hX⟩ : ∃ X, X = (((w.alloc (.cells #[.string ⟨c.nm.toArray⟩, .int .i64 c.lim, .int .i64 c.val, .int .i64 c.held, .map (some hb)] 67)).alloc (.cells #[.int .i64 a] 3)).alloc (.cells #[.int .i64 0, .int .i64 0, .nilFunc] 62)) := ⟨_, rfl⟩
  have hbX : Below w.heap.size w X := by rw [hX]; exact ((((Below.refl _ _).alloc (by first | exact Nat.le_refl _ | (simp; try omega)) _).alloc (by first | exact Nat.le_refl _ | (simp; try omega)) _).alloc (by first | exact Nat.le_refl _ | (simp; try omega)) _)
  have Bcb : Hid (Blk X cb #[.string ⟨c.nm.toArray⟩, .int .i64 c.lim, .int .i64 c.val, .int .i64 c.held, .map (some hb)] 67) := show Blk X cb #[.string ⟨c.nm.toArray⟩, .int .i64 c.lim, .int .i64 c.val, .int .i64 c.held, .map (some hb)] 67 from by rw [hX]; exact (blk_alloc (blk_alloc (show Blk (w.alloc (.cells #[.string ⟨c.nm.toArray⟩, .int .i64 c.lim, .int .i64 c.val, .int .i64 c.held, .map (some hb)] 67)) cb #[.string ⟨c.nm.toArray⟩, .int .i64 c.lim, .int .i64 c.val, .int .i64 c.held, .map (some hb)] 67 from by rw [hcb]; have h := heap_alloc_new w (.cells #[.string ⟨c.nm.toArray⟩, .int .i64 c.lim, .int .i64 c.val, .int .i64 c.held, .map (some hb)] 67); exact h) _) _)
  have Bab : Hid (Blk X ab #[.int .i64 a] 3) := show Blk X ab #[.int .i64 a] 3 from by rw [hX]; exact (blk_alloc (show Blk ((w.alloc (.cells #[.string ⟨c.nm.toArray⟩, .int .i64 c.lim, .int .i64 c.val, .int .i64 c.held, .map (some hb)] 67)).alloc (.cells #[.int .i64 a] 3)) ab #[.int .i64 a] 3 from by rw [hab]; have h := heap_alloc_new (w.alloc (.cells #[.string ⟨c.nm.toArray⟩, .int .i64 c.lim, .int .i64 c.val, .int .i64 c.held, .map (some hb)] 67)) (.cells #[.int .i64 a] 3); simp only [World.size_alloc] at h; exact h) _)
  have Brb : Hid (Blk X rb #[.int .i64 0, .int .i64 0, .nilFunc] 62) := show Blk X rb #[.int .i64 0, .int .i64 0, .nilFunc] 62 from by rw [hX]; exact (show Blk (((w.alloc (.cells #[.string ⟨c.nm.toArray⟩, .int .i64 c.lim, .int .i64 c.val, .int .i64 c.held, .map (some hb)] 67)).alloc (.cells #[.int .i64 a] 3)).alloc (.cells #[.int .i64 0, .int .i64 0, .nilFunc] 62)) rb #[.int .i64 0, .int .i64 0, .nilFunc] 62 from by rw [hrb]; have h := heap_alloc_new ((w.alloc (.cells #[.string ⟨c.nm.toArray⟩, .int .i64 c.lim, .int .i64 c.val, .int .i64 c.held, .map (some hb)] 67)).alloc (.cells #[.int .i64 a] 3)) (.cells #[.int .i64 0, .int .i64 0, .nilFunc] 62); simp only [World.size_alloc] at h; exact h)
  have HBX : Hid (Below w.heap.size w X) := hbX
  have HLB : Hid (w.heap.size ≤ cb ∧ w.heap.size ≤ rb) := ⟨by omega, by omega⟩
  have HLcb : Hid (w.heap.size ≤ cb) := show w.heap.size ≤ cb from by omega
  have HLab : Hid (w.heap.size ≤ ab) := show w.heap.size ≤ ab from by omega
  have HLrb : Hid (w.heap.size ≤ rb) := show w.heap.size ≤ rb from by omega
  have HIX : Hid (HI X hb c.H) := hI.same (hbX.block _ hI.lt)
  clear hbX hI hcv
  by_cases hq : a < c.val + c.held
  · have HO : Hid (recapO a c = ((0, 61), (c.lim, c.val, c.held, c.H))) := show _ = _ from by unfold recapO; rw [if_pos hq]
    go_enter Try.func55, Try.ntmps55
    go_upto_region 1 with fail
    rw [← hX, ← hrb, ← hab, ← hcb]
    clear hX hcb hab hrb
    have x0 : X.cell? ⟨cb, 0, none⟩ = some (.string ⟨c.nm.toArray⟩) := Bcb.out.cell 0
    have x1 : X.cell? ⟨cb, 1, none⟩ = some (.int .i64 c.lim) := Bcb.out.cell 1
    have x2 : X.cell? ⟨cb, 2, none⟩ = some (.int .i64 c.val) := Bcb.out.cell 2
    have x3 : X.cell? ⟨cb, 3, none⟩ = some (.int .i64 c.held) := Bcb.out.cell 3
    have x4 : X.cell? ⟨cb, 4, none⟩ = some (.map (some hb)) := Bcb.out.cell 4
    have xa : X.cell? ⟨ab, 0, none⟩ = some (.int .i64 a) := Bab.out.cell 0
    go_wp2_with fail
    refine Calls.mono (refused_any 61 X) ?_
    rintro e9 w1 ⟨rfl, hb1⟩
    have hR1 : Blk w1 rb #[.int .i64 0, .int .i64 0, .nilFunc] 62 := Brb.out.below hb1 Brb.out.lt
    have r0 : w1.cell? ⟨rb, 0, none⟩ = some (.int .i64 0) := hR1.cell 0
    have q0 : w1.frozen? ⟨rb, 0, none⟩ = false := hR1.frozen 0
    have r1 : w1.cell? ⟨rb, 1, none⟩ = some (.int .i64 0) := hR1.cell 1
    have q1 : w1.frozen? ⟨rb, 1, none⟩ = false := hR1.frozen 1
    have r2 : w1.cell? ⟨rb, 2, none⟩ = some (.nilFunc) := hR1.cell 2
    have q2 : w1.frozen? ⟨rb, 2, none⟩ = false := hR1.frozen 2
    obtain ⟨Z, hZ⟩ : ∃ Z, Z = (((w1.setCell ⟨rb, 0, none⟩ (.int .i64 0)).setCell ⟨rb, 1, none⟩ (.int .i64 61)).setCell ⟨rb, 2, none⟩ (.nilFunc)) := ⟨_, rfl⟩
    have HZ : Hid (Blk Z rb #[.int .i64 0, .int .i64 61, .nilFunc] 62) := show Blk Z rb #[.int .i64 0, .int .i64 61, .nilFunc] 62 from by rw [hZ]; exact (Blk.set (Blk.set (Blk.set hR1 0 (.int .i64 0)) 1 (.int .i64 61)) 2 (.nilFunc))
    have HCZ : Hid (Chg (fun b => b = rb) w1 Z) := show Chg (fun b => b = rb) w1 Z from by rw [hZ]; exact (((setCell_chg _ _ _ _).trans (setCell_chg _ _ _ _) (fun _ _ e => e)).trans (setCell_chg _ _ _ _) (fun _ _ e => e))
    have HBZ : Hid (Below w.heap.size w Z) := show Below w.heap.size w Z from by have h := HBX.out.trans (hb1.mono HBX.out.size); exact h.trans (HCZ.out.below h.size (fun k e => by have := HLB.out.2; omega))
    clear hb1 hR1
    go_wp2_with fail
    rw [← hZ]
    refine bodyPost_ret (results_cell_row Try.results55 _ _ rb 62 _ (0, 0) _ rfl HZ.out Try.underlying62 rfl (by kernel_rfl)) rfl ?_
    rw [HO.out]
    exact ⟨.nilFunc, rfl, rfl, HBZ.out, fun h => absurd h (show ¬ (61 : Int) = 0 by decide)⟩
  · have HO : Hid (recapO a c = ((a, 0), (a, c.val, c.held, c.H))) := show _ = _ from by unfold recapO; rw [if_neg hq]
    go_enter Try.func55, Try.ntmps55
    go_upto_region 1 with fail
    rw [← hX, ← hrb, ← hab, ← hcb]
    clear hX hcb hab hrb
    have x0 : X.cell? ⟨cb, 0, none⟩ = some (.string ⟨c.nm.toArray⟩) := Bcb.out.cell 0
    have x1 : X.cell? ⟨cb, 1, none⟩ = some (.int .i64 c.lim) := Bcb.out.cell 1
    have x2 : X.cell? ⟨cb, 2, none⟩ = some (.int .i64 c.val) := Bcb.out.cell 2
    have x3 : X.cell? ⟨cb, 3, none⟩ = some (.int .i64 c.held) := Bcb.out.cell 3
    have x4 : X.cell? ⟨cb, 4, none⟩ = some (.map (some hb)) := Bcb.out.cell 4
    have xa : X.cell? ⟨ab, 0, none⟩ = some (.int .i64 a) := Bab.out.cell 0
    have r0 : X.cell? ⟨rb, 0, none⟩ = some (.int .i64 0) := Brb.out.cell 0
    have q0 : X.frozen? ⟨rb, 0, none⟩ = false := Brb.out.frozen 0
    have r1 : X.cell? ⟨rb, 1, none⟩ = some (.int .i64 0) := Brb.out.cell 1
    have q1 : X.frozen? ⟨rb, 1, none⟩ = false := Brb.out.frozen 1
    have r2 : X.cell? ⟨rb, 2, none⟩ = some (.nilFunc) := Brb.out.cell 2
    have q2 : X.frozen? ⟨rb, 2, none⟩ = false := Brb.out.frozen 2
    obtain ⟨Z, hZ⟩ : ∃ Z, Z = (((X.setCell ⟨rb, 0, none⟩ (.int .i64 a)).setCell ⟨rb, 1, none⟩ (.int .i64 0)).setCell ⟨rb, 2, none⟩ (.func (.func 70) #[] #[.pointer (some ⟨ab, 0, none⟩), .pointer (some ⟨cb, 0, none⟩)])) := ⟨_, rfl⟩
    have HZ : Hid (Blk Z rb #[.int .i64 a, .int .i64 0, .func (.func 70) #[] #[.pointer (some ⟨ab, 0, none⟩), .pointer (some ⟨cb, 0, none⟩)]] 62) := show Blk Z rb #[.int .i64 a, .int .i64 0, .func (.func 70) #[] #[.pointer (some ⟨ab, 0, none⟩), .pointer (some ⟨cb, 0, none⟩)]] 62 from by rw [hZ]; exact (Blk.set (Blk.set (Blk.set Brb.out 0 (.int .i64 a)) 1 (.int .i64 0)) 2 (.func (.func 70) #[] #[.pointer (some ⟨ab, 0, none⟩), .pointer (some ⟨cb, 0, none⟩)]))
    have HCZ : Hid (Chg (fun b => b = rb) X Z) := show Chg (fun b => b = rb) X Z from by rw [hZ]; exact (((setCell_chg _ _ _ _).trans (setCell_chg _ _ _ _) (fun _ _ e => e)).trans (setCell_chg _ _ _ _) (fun _ _ e => e))
    have HBZ : Hid (Below w.heap.size w Z) := show Below w.heap.size w Z from by have h := HBX.out; exact h.trans (HCZ.out.below h.size (fun k e => by have := HLB.out.2; omega))
    have hmf' := hmf
    go_wp2_with fail
    rw [← hZ]
    refine bodyPost_ret (results_cell_row Try.results55 _ _ rb 62 _ (0, 0) _ rfl HZ.out Try.underlying62 rfl (by kernel_rfl)) rfl ?_
    rw [HO.out]
    refine ⟨_, rfl, rfl, HBZ.out, fun _ => ?_⟩
    have kcb : Blk Z cb #[.string ⟨c.nm.toArray⟩, .int .i64 c.lim, .int .i64 c.val, .int .i64 c.held, .map (some hb)] 67 := HCZ.out.blk Bcb.out (Blk.ne_t Bcb.out Brb.out (by decide))
    have ka : Blk Z ab #[.int .i64 a] 3 := HCZ.out.blk Bab.out (Blk.ne_t Bab.out Brb.out (by decide))
    have kI : HI Z hb c.H := HIX.out.same (HCZ.out.block _ HIX.out.lt (fun e => HIX.out.ne_b Brb.out e.symm))
    exact doer_plain (c' := { c with lim := a }) (fun args w => by simp [go_sem]) HLB.out.1 kcb.lt kI hhb (fun e => kI.ne_b kcb e.symm) (fun W h => recap1_any a W (h.blk (show Blk _ cb c.cs 67 from hcs ▸ kcb) HLcb.out) (h.blk ka HLab.out))
set_option maxRecDepth 100000 in
set_option maxHeartbeats 3200000 in
theorem read_any {hb : Nat} {c : Ct} (w : World) (hI : HI w hb c.H) (hhb : c.hb = some hb) :
    Calls Try.prog 56 #[ctV c] w (PlPost (some hb) c.nm (readO c) w) := by
  have hcv : ctV c = .agg #[.string ⟨c.nm.toArray⟩, .int .i64 c.lim, .int .i64 c.val, .int .i64 c.held, .map (some hb)] := by simp only [ctV, Ct.cs, hhb]
  have hcs : c.cs = #[.string ⟨c.nm.toArray⟩, .int .i64 c.lim, .int .i64 c.val, .int .i64 c.held, .map (some hb)] := by simp only [Ct.cs, hhb]
  rw [hcv]
  obtain ⟨cb, hcb⟩ : ∃ b, b = w.heap.size := ⟨_, rfl⟩
  obtain ⟨rb, hrb⟩ : ∃ b, b = w.heap.size + 1 := ⟨_, rfl⟩
  obtain ⟨X, hX⟩ : ∃ X, X = ((w.alloc (.cells #[.string ⟨c.nm.toArray⟩, .int .i64 c.lim, .int .i64 c.val, .int .i64 c.held, .map (some hb)] 67)).alloc (.cells #[.int .i64 0, .int .i64 0, .nilFunc] 62)) := ⟨_, rfl⟩
  have hbX : Below w.heap.size w X := by rw [hX]; exact (((Below.refl _ _).alloc (by first | exact Nat.le_refl _ | (simp; try omega)) _).alloc (by first | exact Nat.le_refl _ | (simp; try omega)) _)
  have Bcb : Hid (Blk X cb #[.string ⟨c.nm.toArray⟩, .int .i64 c.lim, .int .i64 c.val, .int .i64 c.held, .map (some hb)] 67) := show Blk X cb #[.string ⟨c.nm.toArray⟩, .int .i64 c.lim, .int .i64 c.val, .int .i64 c.held, .map (some hb)] 67 from by rw [hX]; exact (blk_alloc (show Blk (w.alloc (.cells #[.string ⟨c.nm.toArray⟩, .int .i64 c.lim, .int .i64 c.val, .int .i64 c.held, .map (some hb)] 67)) cb #[.string ⟨c.nm.toArray⟩, .int .i64 c.lim, .int .i64 c.val, .int .i64 c.held, .map (some hb)] 67 from by rw [hcb]; have h := heap_alloc_new w (.cells #[.string ⟨c.nm.toArray⟩, .int .i64 c.lim, .int .i64 c.val, .int .i64 c.held, .map (some hb)] 67); exact h) _)
  have Brb : Hid (Blk X rb #[.int .i64 0, .int .i64 0, .nilFunc] 62) := show Blk X rb #[.int .i64 0, .int .i64 0, .nilFunc] 62 from by rw [hX]; exact (show Blk ((w.alloc (.cells #[.string ⟨c.nm.toArray⟩, .int .i64 c.lim, .int .i64 c.val, .int .i64 c.held, .map (some hb)] 67)).alloc (.cells #[.int .i64 0, .int .i64 0, .nilFunc] 62)) rb #[.int .i64 0, .int .i64 0, .nilFunc] 62 from by rw [hrb]; have h := heap_alloc_new (w.alloc (.cells #[.string ⟨c.nm.toArray⟩, .int .i64 c.lim, .int .i64 c.val, .int .i64 c.held, .map (some hb)] 67)) (.cells #[.int .i64 0, .int .i64 0, .nilFunc] 62); simp only [World.size_alloc] at h; exact h)
  have HBX : Hid (Below w.heap.size w X) := hbX
  have HLB : Hid (w.heap.size ≤ cb ∧ w.heap.size ≤ rb) := ⟨by omega, by omega⟩
  have HLcb : Hid (w.heap.size ≤ cb) := show w.heap.size ≤ cb from by omega
  have HLrb : Hid (w.heap.size ≤ rb) := show w.heap.size ≤ rb from by omega
  have HIX : Hid (HI X hb c.H) := hI.same (hbX.block _ hI.lt)
  clear hbX hI hcv
  have HO : Hid (readO c = ((c.val, 0), (c.lim, c.val, c.held, c.H))) := show _ = _ from rfl
  go_enter Try.func56, Try.ntmps56
  go_upto_region 1 with fail
  rw [← hX, ← hrb, ← hcb]
  clear hX hcb hrb
  have x0 : X.cell? ⟨cb, 0, none⟩ = some (.string ⟨c.nm.toArray⟩) := Bcb.out.cell 0
  have x1 : X.cell? ⟨cb, 1, none⟩ = some (.int .i64 c.lim) := Bcb.out.cell 1
  have x2 : X.cell? ⟨cb, 2, none⟩ = some (.int .i64 c.val) := Bcb.out.cell 2
  have x3 : X.cell? ⟨cb, 3, none⟩ = some (.int .i64 c.held) := Bcb.out.cell 3
  have x4 : X.cell? ⟨cb, 4, none⟩ = some (.map (some hb)) := Bcb.out.cell 4
  have r0 : X.cell? ⟨rb, 0, none⟩ = some (.int .i64 0) := Brb.out.cell 0
  have q0 : X.frozen? ⟨rb, 0, none⟩ = false := Brb.out.frozen 0
  have r1 : X.cell? ⟨rb, 1, none⟩ = some (.int .i64 0) := Brb.out.cell 1
  have q1 : X.frozen? ⟨rb, 1, none⟩ = false := Brb.out.frozen 1
  have r2 : X.cell? ⟨rb, 2, none⟩ = some (.nilFunc) := Brb.out.cell 2
  have q2 : X.frozen? ⟨rb, 2, none⟩ = false := Brb.out.frozen 2
  obtain ⟨Z, hZ⟩ : ∃ Z, Z = (((X.setCell ⟨rb, 0, none⟩ (.int .i64 c.val)).setCell ⟨rb, 1, none⟩ (.int .i64 0)).setCell ⟨rb, 2, none⟩ (.func (.func 71) #[] #[.pointer (some ⟨cb, 0, none⟩)])) := ⟨_, rfl⟩
  have HZ : Hid (Blk Z rb #[.int .i64 c.val, .int .i64 0, .func (.func 71) #[] #[.pointer (some ⟨cb, 0, none⟩)]] 62) := show Blk Z rb #[.int .i64 c.val, .int .i64 0, .func (.func 71) #[] #[.pointer (some ⟨cb, 0, none⟩)]] 62 from by rw [hZ]; exact (Blk.set (Blk.set (Blk.set Brb.out 0 (.int .i64 c.val)) 1 (.int .i64 0)) 2 (.func (.func 71) #[] #[.pointer (some ⟨cb, 0, none⟩)]))
  have HCZ : Hid (Chg (fun b => b = rb) X Z) := show Chg (fun b => b = rb) X Z from by rw [hZ]; exact (((setCell_chg _ _ _ _).trans (setCell_chg _ _ _ _) (fun _ _ e => e)).trans (setCell_chg _ _ _ _) (fun _ _ e => e))
  have HBZ : Hid (Below w.heap.size w Z) := show Below w.heap.size w Z from by have h := HBX.out; exact h.trans (HCZ.out.below h.size (fun k e => by have := HLB.out.2; omega))
  have hmf' := hmf
  go_wp2_with fail
  rw [← hZ]
  refine bodyPost_ret (results_cell_row Try.results56 _ _ rb 62 _ (0, 0) _ rfl HZ.out Try.underlying62 rfl (by kernel_rfl)) rfl ?_
  rw [HO.out]
  refine ⟨_, rfl, rfl, HBZ.out, fun _ => ?_⟩
  have kcb : Blk Z cb #[.string ⟨c.nm.toArray⟩, .int .i64 c.lim, .int .i64 c.val, .int .i64 c.held, .map (some hb)] 67 := HCZ.out.blk Bcb.out (Blk.ne_t Bcb.out Brb.out (by decide))
  have kI : HI Z hb c.H := HIX.out.same (HCZ.out.block _ HIX.out.lt (fun e => HIX.out.ne_b Brb.out e.symm))
  exact doer_plain (c' := c) (fun args w => by simp [go_sem]) HLB.out.1 kcb.lt kI hhb (fun e => kI.ne_b kcb e.symm) (fun W h => read1_any W (h.blk (show Blk _ cb c.cs 67 from hcs ▸ kcb) HLcb.out))
end Go.Proofs.Ytaiknlnjahjeiaa
