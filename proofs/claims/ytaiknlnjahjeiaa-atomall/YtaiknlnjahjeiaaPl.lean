import Derived.Test.YtaiknlnjahjeiaaJoinB
import Derived.Deep.Cut
namespace Go.Proofs.Ytaiknlnjahjeiaa
open Go.RowKit Go.PlainAid Go.MapKept
set_option linter.unusedVariables false
set_option linter.unusedSimpArgs false
def opB (k A B : Int) : Bool :=
  if k = 1 then amtB A && valB B else if k = 2 ∨ k = 3 ∨ k = 10 then amtB A && (B == 0) else if k = 4 then amtB A && amtB B else if k = 5 ∨ k = 6 ∨ k = 12 then decide (1 ≤ A) && (B == 0) else if k = 7 then (A == 0) && (B == 0) else if k = 8 then valB A && amtB B else if k = 9 then valB A && (B == 0) else false
def sumH (H : List (Int × Int)) : Int := (H.map (·.2)).sum
/-- What holds of a counter. -/
structure Ct.Ok (c : Ct) : Prop where
  lim : 1 ≤ c.lim ∧ c.lim ≤ 1099511627776
  val : 0 ≤ c.val
  sum : c.val + c.held ≤ c.lim
  held : c.held = sumH c.H
  pos : ∀ p ∈ c.H, 0 ≤ p.2
  kd : c.H.Pairwise (fun a b => a.1 ≠ b.1)
theorem sum_nn : ∀ {H : List (Int × Int)}, (∀ p ∈ H, 0 ≤ p.2) → 0 ≤ sumH H
  | [], _ => by simp [sumH]
  | x :: t, h => by
    have h1 := h x (by simp)
    have h2 := sum_nn (H := t) (fun p hp => h p (by simp [hp]))
    simp only [sumH, List.map_cons, List.sum_cons] at h2 ⊢
    omega
theorem look_le (q : Int) : ∀ {H : List (Int × Int)}, (∀ p ∈ H, 0 ≤ p.2) → 0 ≤ (Gm.look q H).getD 0 ∧ (Gm.look q H).getD 0 ≤ sumH H
  | [], _ => by simp [sumH, Gm.look]
  | x :: t, h => by
    have h1 := h x (by simp)
    have h2 := sum_nn (H := t) (fun p hp => h p (by simp [hp]))
    have h3 := look_le q (H := t) (fun p hp => h p (by simp [hp]))
    by_cases e : q = x.1
    · simp only [Gm.look, List.find?_cons, e, decide_true, Option.map_some, Option.getD_some, sumH, List.map_cons, List.sum_cons]
      simp only [sumH] at h2
      omega
    · have e2 : Gm.look q (x :: t) = Gm.look q t := by simp [Gm.look, List.find?_cons, e]
      rw [e2]
      simp only [sumH, List.map_cons, List.sum_cons] at h2 h3 ⊢
      omega
theorem Ct.Ok.heldnn {c : Ct} (h : c.Ok) : 0 ≤ c.held := by rw [h.held]; exact sum_nn h.pos
theorem Ct.Ok.amt {c : Ct} (h : c.Ok) (q : Int) : 0 ≤ amt q c ∧ amt q c ≤ c.held := by rw [h.held]; exact look_le q h.pos
/-- What an op comes to at a counter. -/
def ctO (k A B q : Int) (c : Ct) : Out :=
  if k = 2 then incO A c else if k = 3 then decO A c else if k = 4 then holdO A q c else if k = 5 ∨ k = 6 ∨ k = 12 then endO k A c else if k = 8 then takeO A B c else if k = 9 then resetO A c else if k = 10 then recapO A c else readO c
theorem amtB_yes {n : Int} (h : amtB n = true) : 1 ≤ n ∧ n ≤ 1099511627776 := by simpa [amtB] using h
theorem valB_yes {n : Int} (h : valB n = true) : 0 ≤ n ∧ n ≤ 1099511627776 := by simpa [valB] using h
theorem wr {x : Int} (h1 : -9000000000000 ≤ x) (h2 : x ≤ 9000000000000) : IntKind.i64.wrap x = x := by rw [IntKind.wrap_i64]; omega
set_option maxRecDepth 100000 in
set_option maxHeartbeats 6400000 in
theorem cplan_any {hb : Nat} {c : Ct} (k A B q : Int) (n : List UInt8) (w : World) (hI : HI w hb c.H) (hhb : c.hb = some hb) (hc : c.Ok) (ho : opB k A B = true) :
    Calls Try.prog 33 #[ctV c, .agg #[.int .i64 k, .string ⟨n.toArray⟩, .int .i64 A, .int .i64 B], .int .i64 q] w (PlPost (some hb) c.nm (ctO k A B q c) w) := by
  have hcv : ctV c = .agg #[.string ⟨c.nm.toArray⟩, .int .i64 c.lim, .int .i64 c.val, .int .i64 c.held, .map (some hb)] := by simp only [ctV, Ct.cs, hhb]
  have hcs : c.cs = #[.string ⟨c.nm.toArray⟩, .int .i64 c.lim, .int .i64 c.val, .int .i64 c.held, .map (some hb)] := by simp only [Ct.cs, hhb]
  obtain ⟨l1, l2⟩ := hc.lim
  have l3 := hc.val
  have l4 := hc.sum
  have l5 := hc.heldnn
  obtain ⟨cb, hcb⟩ : ∃ b, b = w.heap.size := ⟨_, rfl⟩
  obtain ⟨ob, hob⟩ : ∃ b, b = w.heap.size + 1 := ⟨_, rfl⟩
  obtain ⟨rb, hrb⟩ : ∃ b, b = w.heap.size + 1 + 1 := ⟨_, rfl⟩
  obtain ⟨X, hX⟩ : ∃ X, X = (((w.alloc (.cells #[.string ⟨c.nm.toArray⟩, .int .i64 c.lim, .int .i64 c.val, .int .i64 c.held, .map (some hb)] 67)).alloc (.cells #[.int .i64 k, .string ⟨n.toArray⟩, .int .i64 A, .int .i64 B] 31)).alloc (.cells #[.int .i64 0, .int .i64 0, .nilFunc] 62)) := ⟨_, rfl⟩
  have hbX : Below w.heap.size w X := by rw [hX]; exact ((((Below.refl _ _).alloc (by first | exact Nat.le_refl _ | (simp; try omega)) _).alloc (by first | exact Nat.le_refl _ | (simp; try omega)) _).alloc (by first | exact Nat.le_refl _ | (simp; try omega)) _)
  have Bcb : Hid (Blk X cb #[.string ⟨c.nm.toArray⟩, .int .i64 c.lim, .int .i64 c.val, .int .i64 c.held, .map (some hb)] 67) := show Blk X cb #[.string ⟨c.nm.toArray⟩, .int .i64 c.lim, .int .i64 c.val, .int .i64 c.held, .map (some hb)] 67 from by rw [hX]; exact (blk_alloc (blk_alloc (show Blk (w.alloc (.cells #[.string ⟨c.nm.toArray⟩, .int .i64 c.lim, .int .i64 c.val, .int .i64 c.held, .map (some hb)] 67)) cb #[.string ⟨c.nm.toArray⟩, .int .i64 c.lim, .int .i64 c.val, .int .i64 c.held, .map (some hb)] 67 from by rw [hcb]; have h := heap_alloc_new w (.cells #[.string ⟨c.nm.toArray⟩, .int .i64 c.lim, .int .i64 c.val, .int .i64 c.held, .map (some hb)] 67); exact h) _) _)
  have Bob : Hid (Blk X ob #[.int .i64 k, .string ⟨n.toArray⟩, .int .i64 A, .int .i64 B] 31) := show Blk X ob #[.int .i64 k, .string ⟨n.toArray⟩, .int .i64 A, .int .i64 B] 31 from by rw [hX]; exact (blk_alloc (show Blk ((w.alloc (.cells #[.string ⟨c.nm.toArray⟩, .int .i64 c.lim, .int .i64 c.val, .int .i64 c.held, .map (some hb)] 67)).alloc (.cells #[.int .i64 k, .string ⟨n.toArray⟩, .int .i64 A, .int .i64 B] 31)) ob #[.int .i64 k, .string ⟨n.toArray⟩, .int .i64 A, .int .i64 B] 31 from by rw [hob]; have h := heap_alloc_new (w.alloc (.cells #[.string ⟨c.nm.toArray⟩, .int .i64 c.lim, .int .i64 c.val, .int .i64 c.held, .map (some hb)] 67)) (.cells #[.int .i64 k, .string ⟨n.toArray⟩, .int .i64 A, .int .i64 B] 31); simp only [World.size_alloc] at h; exact h) _)
  have Brb : Hid (Blk X rb #[.int .i64 0, .int .i64 0, .nilFunc] 62) := show Blk X rb #[.int .i64 0, .int .i64 0, .nilFunc] 62 from by rw [hX]; exact (show Blk (((w.alloc (.cells #[.string ⟨c.nm.toArray⟩, .int .i64 c.lim, .int .i64 c.val, .int .i64 c.held, .map (some hb)] 67)).alloc (.cells #[.int .i64 k, .string ⟨n.toArray⟩, .int .i64 A, .int .i64 B] 31)).alloc (.cells #[.int .i64 0, .int .i64 0, .nilFunc] 62)) rb #[.int .i64 0, .int .i64 0, .nilFunc] 62 from by rw [hrb]; have h := heap_alloc_new ((w.alloc (.cells #[.string ⟨c.nm.toArray⟩, .int .i64 c.lim, .int .i64 c.val, .int .i64 c.held, .map (some hb)] 67)).alloc (.cells #[.int .i64 k, .string ⟨n.toArray⟩, .int .i64 A, .int .i64 B] 31)) (.cells #[.int .i64 0, .int .i64 0, .nilFunc] 62); simp only [World.size_alloc] at h; exact h)
  have HBX : Hid (Below w.heap.size w X) := hbX
  have HLB : Hid (w.heap.size ≤ cb ∧ w.heap.size ≤ rb) := ⟨by omega, by omega⟩
  have HIX : Hid (HI X hb c.H) := hI.same (hbX.block _ hI.lt)
  have HLK : Hid (∀ q, 0 ≤ amt q c ∧ amt q c ≤ c.held) := hc.amt
  rw [hcv]
  clear hbX hI hc
  by_cases hk : k = 2
  · have ho2 := ho
    rw [hk] at ho2
    simp [opB] at ho2
    have b1 := amtB_yes ho2.1
    have HO : Hid (ctO k A B q c = incO A c) := show _ = _ from by unfold ctO; rw [if_pos hk]
    have HM : Hid (Calls Try.prog 49 #[ctV c, .int .i64 A] X (PlPost (some hb) c.nm (incO A c) X)) := inc_any A X HIX.out hhb (wr (by omega) (by omega)) (wr (by omega) (by omega)) (wr (by omega) (by omega))
    rw [hcv] at HM
    rw [HO.out]
    generalize incO A c = R at *
    clear ho HO l1 l2 l3 l4 l5 HLK hcv
    try clear b1
    try clear ho2
    subst hk
    go_enter Try.func33, Try.ntmps33
    go_upto_region 1 with fail
    rw [← hX, ← hrb, ← hob, ← hcb]
    clear hX hcb hob hrb
    have x0 : X.cell? ⟨cb, 0, none⟩ = some (.string ⟨c.nm.toArray⟩) := Bcb.out.cell 0
    have x1 : X.cell? ⟨cb, 1, none⟩ = some (.int .i64 c.lim) := Bcb.out.cell 1
    have x2 : X.cell? ⟨cb, 2, none⟩ = some (.int .i64 c.val) := Bcb.out.cell 2
    have x3 : X.cell? ⟨cb, 3, none⟩ = some (.int .i64 c.held) := Bcb.out.cell 3
    have x4 : X.cell? ⟨cb, 4, none⟩ = some (.map (some hb)) := Bcb.out.cell 4
    have o0 : X.cell? ⟨ob, 0, none⟩ = some (.int .i64 2) := Bob.out.cell 0
    have o1 : X.cell? ⟨ob, 1, none⟩ = some (.string ⟨n.toArray⟩) := Bob.out.cell 1
    have o2 : X.cell? ⟨ob, 2, none⟩ = some (.int .i64 A) := Bob.out.cell 2
    have o3 : X.cell? ⟨ob, 3, none⟩ = some (.int .i64 B) := Bob.out.cell 3
    go_wp2_with fail
    refine Calls.mono HM.out ?_
    rintro e9 w1 ⟨fv, rfl, hone, hb1, hdo⟩
    have hst : ∀ (A : Addr) (m : Mode) (W : World), (store A fv m).run Try.prog W = stored Try.prog W A fv m := fun A m W => run_store _ _ _ _ _ hone
    have hR1 : Blk w1 rb #[.int .i64 0, .int .i64 0, .nilFunc] 62 := Brb.out.below hb1 Brb.out.lt
    have HDO : Hid _ := hdo
    have HXS : Hid (w.heap.size ≤ X.heap.size) := HBX.out.size
    have HI1 : Hid (HI w1 hb c.H) := HIX.out.same (hb1.block _ HIX.out.lt)
    have HR1 : Hid (Blk w1 rb #[.int .i64 0, .int .i64 0, .nilFunc] 62) := hR1
    have r0 : w1.cell? ⟨rb, 0, none⟩ = some (.int .i64 0) := hR1.cell 0
    have q0 : w1.frozen? ⟨rb, 0, none⟩ = false := hR1.frozen 0
    have r1 : w1.cell? ⟨rb, 1, none⟩ = some (.int .i64 0) := hR1.cell 1
    have q1 : w1.frozen? ⟨rb, 1, none⟩ = false := hR1.frozen 1
    have r2 : w1.cell? ⟨rb, 2, none⟩ = some (.nilFunc) := hR1.cell 2
    have q2 : w1.frozen? ⟨rb, 2, none⟩ = false := hR1.frozen 2
    obtain ⟨Z, hZ⟩ : ∃ Z, Z = (((w1.setCell ⟨rb, 0, none⟩ (.int .i64 R.1.1)).setCell ⟨rb, 1, none⟩ (.int .i64 R.1.2)).setCell ⟨rb, 2, none⟩ (fv)) := ⟨_, rfl⟩
    have HZ : Hid (Blk Z rb #[.int .i64 R.1.1, .int .i64 R.1.2, fv] 62) := show Blk Z rb #[.int .i64 R.1.1, .int .i64 R.1.2, fv] 62 from by rw [hZ]; exact (Blk.set (Blk.set (Blk.set hR1 0 (.int .i64 R.1.1)) 1 (.int .i64 R.1.2)) 2 (fv))
    have HCZ : Hid (Chg (fun b => b = rb) w1 Z) := show Chg (fun b => b = rb) w1 Z from by rw [hZ]; exact (((setCell_chg _ _ _ _).trans (setCell_chg _ _ _ _) (fun _ _ e => e)).trans (setCell_chg _ _ _ _) (fun _ _ e => e))
    have HBZ : Hid (Below w.heap.size w Z) := show Below w.heap.size w Z from by have h := HBX.out.trans (hb1.mono HBX.out.size); exact h.trans (HCZ.out.below h.size (fun k e => by have := HLB.out.2; omega))
    clear hb1 hR1 hdo x0 x1 x2 x3 x4 o0 o1 o2 o3
    go_wp2_with fail
    rw [← hZ]
    refine bodyPost_ret (results_cell_row Try.results33 _ _ rb 62 _ (0, 0) _ rfl HZ.out Try.underlying62 rfl (by kernel_rfl)) rfl ?_
    refine ⟨fv, rfl, hone, HBZ.out, fun hz => ?_⟩
    exact (HDO.out hz).later HCZ.out HXS.out (fun k hk e => by have := Brb.out.lt; omega) (fun k hk => by cases hk; exact ⟨(HI1.out).lt, fun e => HI1.out.ne_b HR1.out e.symm⟩)
  have f2 := hk
  clear hk
  by_cases hk : k = 3
  · have ho2 := ho
    rw [hk] at ho2
    simp [opB] at ho2
    have b1 := amtB_yes ho2.1
    have HO : Hid (ctO k A B q c = decO A c) := show _ = _ from by unfold ctO; rw [if_neg (show ¬ k = 2 by omega), if_pos hk]
    have HM : Hid (Calls Try.prog 50 #[ctV c, .int .i64 A] X (PlPost (some hb) c.nm (decO A c) X)) := dec_any A X HIX.out hhb (wr (by omega) (by omega))
    rw [hcv] at HM
    rw [HO.out]
    generalize decO A c = R at *
    clear ho HO l1 l2 l3 l4 l5 HLK hcv
    try clear b1
    try clear ho2
    subst hk
    go_enter Try.func33, Try.ntmps33
    go_upto_region 1 with fail
    rw [← hX, ← hrb, ← hob, ← hcb]
    clear hX hcb hob hrb
    have x0 : X.cell? ⟨cb, 0, none⟩ = some (.string ⟨c.nm.toArray⟩) := Bcb.out.cell 0
    have x1 : X.cell? ⟨cb, 1, none⟩ = some (.int .i64 c.lim) := Bcb.out.cell 1
    have x2 : X.cell? ⟨cb, 2, none⟩ = some (.int .i64 c.val) := Bcb.out.cell 2
    have x3 : X.cell? ⟨cb, 3, none⟩ = some (.int .i64 c.held) := Bcb.out.cell 3
    have x4 : X.cell? ⟨cb, 4, none⟩ = some (.map (some hb)) := Bcb.out.cell 4
    have o0 : X.cell? ⟨ob, 0, none⟩ = some (.int .i64 3) := Bob.out.cell 0
    have o1 : X.cell? ⟨ob, 1, none⟩ = some (.string ⟨n.toArray⟩) := Bob.out.cell 1
    have o2 : X.cell? ⟨ob, 2, none⟩ = some (.int .i64 A) := Bob.out.cell 2
    have o3 : X.cell? ⟨ob, 3, none⟩ = some (.int .i64 B) := Bob.out.cell 3
    go_wp2_with fail
    refine Calls.mono HM.out ?_
    rintro e9 w1 ⟨fv, rfl, hone, hb1, hdo⟩
    have hst : ∀ (A : Addr) (m : Mode) (W : World), (store A fv m).run Try.prog W = stored Try.prog W A fv m := fun A m W => run_store _ _ _ _ _ hone
    have hR1 : Blk w1 rb #[.int .i64 0, .int .i64 0, .nilFunc] 62 := Brb.out.below hb1 Brb.out.lt
    have HDO : Hid _ := hdo
    have HXS : Hid (w.heap.size ≤ X.heap.size) := HBX.out.size
    have HI1 : Hid (HI w1 hb c.H) := HIX.out.same (hb1.block _ HIX.out.lt)
    have HR1 : Hid (Blk w1 rb #[.int .i64 0, .int .i64 0, .nilFunc] 62) := hR1
    have r0 : w1.cell? ⟨rb, 0, none⟩ = some (.int .i64 0) := hR1.cell 0
    have q0 : w1.frozen? ⟨rb, 0, none⟩ = false := hR1.frozen 0
    have r1 : w1.cell? ⟨rb, 1, none⟩ = some (.int .i64 0) := hR1.cell 1
    have q1 : w1.frozen? ⟨rb, 1, none⟩ = false := hR1.frozen 1
    have r2 : w1.cell? ⟨rb, 2, none⟩ = some (.nilFunc) := hR1.cell 2
    have q2 : w1.frozen? ⟨rb, 2, none⟩ = false := hR1.frozen 2
    obtain ⟨Z, hZ⟩ : ∃ Z, Z = (((w1.setCell ⟨rb, 0, none⟩ (.int .i64 R.1.1)).setCell ⟨rb, 1, none⟩ (.int .i64 R.1.2)).setCell ⟨rb, 2, none⟩ (fv)) := ⟨_, rfl⟩
    have HZ : Hid (Blk Z rb #[.int .i64 R.1.1, .int .i64 R.1.2, fv] 62) := show Blk Z rb #[.int .i64 R.1.1, .int .i64 R.1.2, fv] 62 from by rw [hZ]; exact (Blk.set (Blk.set (Blk.set hR1 0 (.int .i64 R.1.1)) 1 (.int .i64 R.1.2)) 2 (fv))
    have HCZ : Hid (Chg (fun b => b = rb) w1 Z) := show Chg (fun b => b = rb) w1 Z from by rw [hZ]; exact (((setCell_chg _ _ _ _).trans (setCell_chg _ _ _ _) (fun _ _ e => e)).trans (setCell_chg _ _ _ _) (fun _ _ e => e))
    have HBZ : Hid (Below w.heap.size w Z) := show Below w.heap.size w Z from by have h := HBX.out.trans (hb1.mono HBX.out.size); exact h.trans (HCZ.out.below h.size (fun k e => by have := HLB.out.2; omega))
    clear hb1 hR1 hdo x0 x1 x2 x3 x4 o0 o1 o2 o3
    go_wp2_with fail
    rw [← hZ]
    refine bodyPost_ret (results_cell_row Try.results33 _ _ rb 62 _ (0, 0) _ rfl HZ.out Try.underlying62 rfl (by kernel_rfl)) rfl ?_
    refine ⟨fv, rfl, hone, HBZ.out, fun hz => ?_⟩
    exact (HDO.out hz).later HCZ.out HXS.out (fun k hk e => by have := Brb.out.lt; omega) (fun k hk => by cases hk; exact ⟨(HI1.out).lt, fun e => HI1.out.ne_b HR1.out e.symm⟩)
  have f3 := hk
  clear hk
  by_cases hk : k = 4
  · have ho2 := ho
    rw [hk] at ho2
    simp [opB] at ho2
    have b1 := amtB_yes ho2.1
    have HO : Hid (ctO k A B q c = holdO A q c) := show _ = _ from by unfold ctO; rw [if_neg (show ¬ k = 2 by omega), if_neg (show ¬ k = 3 by omega), if_pos hk]
    have HM : Hid (Calls Try.prog 51 #[ctV c, .int .i64 A, .int .i64 q] X (PlPost (some hb) c.nm (holdO A q c) X)) := hold_any A q X HIX.out hhb (wr (by omega) (by omega)) (wr (by omega) (by omega))
    rw [hcv] at HM
    rw [HO.out]
    generalize holdO A q c = R at *
    clear ho HO l1 l2 l3 l4 l5 HLK hcv
    try clear b1
    try clear ho2
    subst hk
    go_enter Try.func33, Try.ntmps33
    go_upto_region 1 with fail
    rw [← hX, ← hrb, ← hob, ← hcb]
    clear hX hcb hob hrb
    have x0 : X.cell? ⟨cb, 0, none⟩ = some (.string ⟨c.nm.toArray⟩) := Bcb.out.cell 0
    have x1 : X.cell? ⟨cb, 1, none⟩ = some (.int .i64 c.lim) := Bcb.out.cell 1
    have x2 : X.cell? ⟨cb, 2, none⟩ = some (.int .i64 c.val) := Bcb.out.cell 2
    have x3 : X.cell? ⟨cb, 3, none⟩ = some (.int .i64 c.held) := Bcb.out.cell 3
    have x4 : X.cell? ⟨cb, 4, none⟩ = some (.map (some hb)) := Bcb.out.cell 4
    have o0 : X.cell? ⟨ob, 0, none⟩ = some (.int .i64 4) := Bob.out.cell 0
    have o1 : X.cell? ⟨ob, 1, none⟩ = some (.string ⟨n.toArray⟩) := Bob.out.cell 1
    have o2 : X.cell? ⟨ob, 2, none⟩ = some (.int .i64 A) := Bob.out.cell 2
    have o3 : X.cell? ⟨ob, 3, none⟩ = some (.int .i64 B) := Bob.out.cell 3
    go_wp2_with fail
    refine Calls.mono HM.out ?_
    rintro e9 w1 ⟨fv, rfl, hone, hb1, hdo⟩
    have hst : ∀ (A : Addr) (m : Mode) (W : World), (store A fv m).run Try.prog W = stored Try.prog W A fv m := fun A m W => run_store _ _ _ _ _ hone
    have hR1 : Blk w1 rb #[.int .i64 0, .int .i64 0, .nilFunc] 62 := Brb.out.below hb1 Brb.out.lt
    have HDO : Hid _ := hdo
    have HXS : Hid (w.heap.size ≤ X.heap.size) := HBX.out.size
    have HI1 : Hid (HI w1 hb c.H) := HIX.out.same (hb1.block _ HIX.out.lt)
    have HR1 : Hid (Blk w1 rb #[.int .i64 0, .int .i64 0, .nilFunc] 62) := hR1
    have r0 : w1.cell? ⟨rb, 0, none⟩ = some (.int .i64 0) := hR1.cell 0
    have q0 : w1.frozen? ⟨rb, 0, none⟩ = false := hR1.frozen 0
    have r1 : w1.cell? ⟨rb, 1, none⟩ = some (.int .i64 0) := hR1.cell 1
    have q1 : w1.frozen? ⟨rb, 1, none⟩ = false := hR1.frozen 1
    have r2 : w1.cell? ⟨rb, 2, none⟩ = some (.nilFunc) := hR1.cell 2
    have q2 : w1.frozen? ⟨rb, 2, none⟩ = false := hR1.frozen 2
    obtain ⟨Z, hZ⟩ : ∃ Z, Z = (((w1.setCell ⟨rb, 0, none⟩ (.int .i64 R.1.1)).setCell ⟨rb, 1, none⟩ (.int .i64 R.1.2)).setCell ⟨rb, 2, none⟩ (fv)) := ⟨_, rfl⟩
    have HZ : Hid (Blk Z rb #[.int .i64 R.1.1, .int .i64 R.1.2, fv] 62) := show Blk Z rb #[.int .i64 R.1.1, .int .i64 R.1.2, fv] 62 from by rw [hZ]; exact (Blk.set (Blk.set (Blk.set hR1 0 (.int .i64 R.1.1)) 1 (.int .i64 R.1.2)) 2 (fv))
    have HCZ : Hid (Chg (fun b => b = rb) w1 Z) := show Chg (fun b => b = rb) w1 Z from by rw [hZ]; exact (((setCell_chg _ _ _ _).trans (setCell_chg _ _ _ _) (fun _ _ e => e)).trans (setCell_chg _ _ _ _) (fun _ _ e => e))
    have HBZ : Hid (Below w.heap.size w Z) := show Below w.heap.size w Z from by have h := HBX.out.trans (hb1.mono HBX.out.size); exact h.trans (HCZ.out.below h.size (fun k e => by have := HLB.out.2; omega))
    clear hb1 hR1 hdo x0 x1 x2 x3 x4 o0 o1 o2 o3
    go_wp2_with fail
    rw [← hZ]
    refine bodyPost_ret (results_cell_row Try.results33 _ _ rb 62 _ (0, 0) _ rfl HZ.out Try.underlying62 rfl (by kernel_rfl)) rfl ?_
    refine ⟨fv, rfl, hone, HBZ.out, fun hz => ?_⟩
    exact (HDO.out hz).later HCZ.out HXS.out (fun k hk e => by have := Brb.out.lt; omega) (fun k hk => by cases hk; exact ⟨(HI1.out).lt, fun e => HI1.out.ne_b HR1.out e.symm⟩)
  have f4 := hk
  clear hk
  by_cases hk : k = 5
  · have b1 := HLK.out A
    have HO : Hid (ctO k A B q c = endO 5 A c) := show _ = _ from by unfold ctO; rw [if_neg (show ¬ k = 2 by omega), if_neg (show ¬ k = 3 by omega), if_neg (show ¬ k = 4 by omega), if_pos (show k = 5 ∨ k = 6 ∨ k = 12 by omega), hk]
    have HM : Hid (Calls Try.prog 52 #[ctV c, .int .i64 5, .int .i64 A] X (PlPost (some hb) c.nm (endO 5 A c) X)) := end_any 5 A X HIX.out hhb (wr (by omega) (by omega)) (wr (by omega) (by omega))
    rw [hcv] at HM
    rw [HO.out]
    generalize endO 5 A c = R at *
    clear ho HO l1 l2 l3 l4 l5 HLK hcv
    try clear b1
    try clear ho2
    subst hk
    go_enter Try.func33, Try.ntmps33
    go_upto_region 1 with fail
    rw [← hX, ← hrb, ← hob, ← hcb]
    clear hX hcb hob hrb
    have x0 : X.cell? ⟨cb, 0, none⟩ = some (.string ⟨c.nm.toArray⟩) := Bcb.out.cell 0
    have x1 : X.cell? ⟨cb, 1, none⟩ = some (.int .i64 c.lim) := Bcb.out.cell 1
    have x2 : X.cell? ⟨cb, 2, none⟩ = some (.int .i64 c.val) := Bcb.out.cell 2
    have x3 : X.cell? ⟨cb, 3, none⟩ = some (.int .i64 c.held) := Bcb.out.cell 3
    have x4 : X.cell? ⟨cb, 4, none⟩ = some (.map (some hb)) := Bcb.out.cell 4
    have o0 : X.cell? ⟨ob, 0, none⟩ = some (.int .i64 5) := Bob.out.cell 0
    have o1 : X.cell? ⟨ob, 1, none⟩ = some (.string ⟨n.toArray⟩) := Bob.out.cell 1
    have o2 : X.cell? ⟨ob, 2, none⟩ = some (.int .i64 A) := Bob.out.cell 2
    have o3 : X.cell? ⟨ob, 3, none⟩ = some (.int .i64 B) := Bob.out.cell 3
    go_wp2_with fail
    refine Calls.mono HM.out ?_
    rintro e9 w1 ⟨fv, rfl, hone, hb1, hdo⟩
    have hst : ∀ (A : Addr) (m : Mode) (W : World), (store A fv m).run Try.prog W = stored Try.prog W A fv m := fun A m W => run_store _ _ _ _ _ hone
    have hR1 : Blk w1 rb #[.int .i64 0, .int .i64 0, .nilFunc] 62 := Brb.out.below hb1 Brb.out.lt
    have HDO : Hid _ := hdo
    have HXS : Hid (w.heap.size ≤ X.heap.size) := HBX.out.size
    have HI1 : Hid (HI w1 hb c.H) := HIX.out.same (hb1.block _ HIX.out.lt)
    have HR1 : Hid (Blk w1 rb #[.int .i64 0, .int .i64 0, .nilFunc] 62) := hR1
    have r0 : w1.cell? ⟨rb, 0, none⟩ = some (.int .i64 0) := hR1.cell 0
    have q0 : w1.frozen? ⟨rb, 0, none⟩ = false := hR1.frozen 0
    have r1 : w1.cell? ⟨rb, 1, none⟩ = some (.int .i64 0) := hR1.cell 1
    have q1 : w1.frozen? ⟨rb, 1, none⟩ = false := hR1.frozen 1
    have r2 : w1.cell? ⟨rb, 2, none⟩ = some (.nilFunc) := hR1.cell 2
    have q2 : w1.frozen? ⟨rb, 2, none⟩ = false := hR1.frozen 2
    obtain ⟨Z, hZ⟩ : ∃ Z, Z = (((w1.setCell ⟨rb, 0, none⟩ (.int .i64 R.1.1)).setCell ⟨rb, 1, none⟩ (.int .i64 R.1.2)).setCell ⟨rb, 2, none⟩ (fv)) := ⟨_, rfl⟩
    have HZ : Hid (Blk Z rb #[.int .i64 R.1.1, .int .i64 R.1.2, fv] 62) := show Blk Z rb #[.int .i64 R.1.1, .int .i64 R.1.2, fv] 62 from by rw [hZ]; exact (Blk.set (Blk.set (Blk.set hR1 0 (.int .i64 R.1.1)) 1 (.int .i64 R.1.2)) 2 (fv))
    have HCZ : Hid (Chg (fun b => b = rb) w1 Z) := show Chg (fun b => b = rb) w1 Z from by rw [hZ]; exact (((setCell_chg _ _ _ _).trans (setCell_chg _ _ _ _) (fun _ _ e => e)).trans (setCell_chg _ _ _ _) (fun _ _ e => e))
    have HBZ : Hid (Below w.heap.size w Z) := show Below w.heap.size w Z from by have h := HBX.out.trans (hb1.mono HBX.out.size); exact h.trans (HCZ.out.below h.size (fun k e => by have := HLB.out.2; omega))
    clear hb1 hR1 hdo x0 x1 x2 x3 x4 o0 o1 o2 o3
    go_wp2_with fail
    rw [← hZ]
    refine bodyPost_ret (results_cell_row Try.results33 _ _ rb 62 _ (0, 0) _ rfl HZ.out Try.underlying62 rfl (by kernel_rfl)) rfl ?_
    refine ⟨fv, rfl, hone, HBZ.out, fun hz => ?_⟩
    exact (HDO.out hz).later HCZ.out HXS.out (fun k hk e => by have := Brb.out.lt; omega) (fun k hk => by cases hk; exact ⟨(HI1.out).lt, fun e => HI1.out.ne_b HR1.out e.symm⟩)
  have f5 := hk
  clear hk
  by_cases hk : k = 6
  · have b1 := HLK.out A
    have HO : Hid (ctO k A B q c = endO 6 A c) := show _ = _ from by unfold ctO; rw [if_neg (show ¬ k = 2 by omega), if_neg (show ¬ k = 3 by omega), if_neg (show ¬ k = 4 by omega), if_pos (show k = 5 ∨ k = 6 ∨ k = 12 by omega), hk]
    have HM : Hid (Calls Try.prog 52 #[ctV c, .int .i64 6, .int .i64 A] X (PlPost (some hb) c.nm (endO 6 A c) X)) := end_any 6 A X HIX.out hhb (wr (by omega) (by omega)) (wr (by omega) (by omega))
    rw [hcv] at HM
    rw [HO.out]
    generalize endO 6 A c = R at *
    clear ho HO l1 l2 l3 l4 l5 HLK hcv
    try clear b1
    try clear ho2
    subst hk
    go_enter Try.func33, Try.ntmps33
    go_upto_region 1 with fail
    rw [← hX, ← hrb, ← hob, ← hcb]
    clear hX hcb hob hrb
    have x0 : X.cell? ⟨cb, 0, none⟩ = some (.string ⟨c.nm.toArray⟩) := Bcb.out.cell 0
    have x1 : X.cell? ⟨cb, 1, none⟩ = some (.int .i64 c.lim) := Bcb.out.cell 1
    have x2 : X.cell? ⟨cb, 2, none⟩ = some (.int .i64 c.val) := Bcb.out.cell 2
    have x3 : X.cell? ⟨cb, 3, none⟩ = some (.int .i64 c.held) := Bcb.out.cell 3
    have x4 : X.cell? ⟨cb, 4, none⟩ = some (.map (some hb)) := Bcb.out.cell 4
    have o0 : X.cell? ⟨ob, 0, none⟩ = some (.int .i64 6) := Bob.out.cell 0
    have o1 : X.cell? ⟨ob, 1, none⟩ = some (.string ⟨n.toArray⟩) := Bob.out.cell 1
    have o2 : X.cell? ⟨ob, 2, none⟩ = some (.int .i64 A) := Bob.out.cell 2
    have o3 : X.cell? ⟨ob, 3, none⟩ = some (.int .i64 B) := Bob.out.cell 3
    go_wp2_with fail
    refine Calls.mono HM.out ?_
    rintro e9 w1 ⟨fv, rfl, hone, hb1, hdo⟩
    have hst : ∀ (A : Addr) (m : Mode) (W : World), (store A fv m).run Try.prog W = stored Try.prog W A fv m := fun A m W => run_store _ _ _ _ _ hone
    have hR1 : Blk w1 rb #[.int .i64 0, .int .i64 0, .nilFunc] 62 := Brb.out.below hb1 Brb.out.lt
    have HDO : Hid _ := hdo
    have HXS : Hid (w.heap.size ≤ X.heap.size) := HBX.out.size
    have HI1 : Hid (HI w1 hb c.H) := HIX.out.same (hb1.block _ HIX.out.lt)
    have HR1 : Hid (Blk w1 rb #[.int .i64 0, .int .i64 0, .nilFunc] 62) := hR1
    have r0 : w1.cell? ⟨rb, 0, none⟩ = some (.int .i64 0) := hR1.cell 0
    have q0 : w1.frozen? ⟨rb, 0, none⟩ = false := hR1.frozen 0
    have r1 : w1.cell? ⟨rb, 1, none⟩ = some (.int .i64 0) := hR1.cell 1
    have q1 : w1.frozen? ⟨rb, 1, none⟩ = false := hR1.frozen 1
    have r2 : w1.cell? ⟨rb, 2, none⟩ = some (.nilFunc) := hR1.cell 2
    have q2 : w1.frozen? ⟨rb, 2, none⟩ = false := hR1.frozen 2
    obtain ⟨Z, hZ⟩ : ∃ Z, Z = (((w1.setCell ⟨rb, 0, none⟩ (.int .i64 R.1.1)).setCell ⟨rb, 1, none⟩ (.int .i64 R.1.2)).setCell ⟨rb, 2, none⟩ (fv)) := ⟨_, rfl⟩
    have HZ : Hid (Blk Z rb #[.int .i64 R.1.1, .int .i64 R.1.2, fv] 62) := show Blk Z rb #[.int .i64 R.1.1, .int .i64 R.1.2, fv] 62 from by rw [hZ]; exact (Blk.set (Blk.set (Blk.set hR1 0 (.int .i64 R.1.1)) 1 (.int .i64 R.1.2)) 2 (fv))
    have HCZ : Hid (Chg (fun b => b = rb) w1 Z) := show Chg (fun b => b = rb) w1 Z from by rw [hZ]; exact (((setCell_chg _ _ _ _).trans (setCell_chg _ _ _ _) (fun _ _ e => e)).trans (setCell_chg _ _ _ _) (fun _ _ e => e))
    have HBZ : Hid (Below w.heap.size w Z) := show Below w.heap.size w Z from by have h := HBX.out.trans (hb1.mono HBX.out.size); exact h.trans (HCZ.out.below h.size (fun k e => by have := HLB.out.2; omega))
    clear hb1 hR1 hdo x0 x1 x2 x3 x4 o0 o1 o2 o3
    go_wp2_with fail
    rw [← hZ]
    refine bodyPost_ret (results_cell_row Try.results33 _ _ rb 62 _ (0, 0) _ rfl HZ.out Try.underlying62 rfl (by kernel_rfl)) rfl ?_
    refine ⟨fv, rfl, hone, HBZ.out, fun hz => ?_⟩
    exact (HDO.out hz).later HCZ.out HXS.out (fun k hk e => by have := Brb.out.lt; omega) (fun k hk => by cases hk; exact ⟨(HI1.out).lt, fun e => HI1.out.ne_b HR1.out e.symm⟩)
  have f6 := hk
  clear hk
  by_cases hk : k = 12
  · have b1 := HLK.out A
    have HO : Hid (ctO k A B q c = endO 12 A c) := show _ = _ from by unfold ctO; rw [if_neg (show ¬ k = 2 by omega), if_neg (show ¬ k = 3 by omega), if_neg (show ¬ k = 4 by omega), if_pos (show k = 5 ∨ k = 6 ∨ k = 12 by omega), hk]
    have HM : Hid (Calls Try.prog 52 #[ctV c, .int .i64 12, .int .i64 A] X (PlPost (some hb) c.nm (endO 12 A c) X)) := end_any 12 A X HIX.out hhb (wr (by omega) (by omega)) (wr (by omega) (by omega))
    rw [hcv] at HM
    rw [HO.out]
    generalize endO 12 A c = R at *
    clear ho HO l1 l2 l3 l4 l5 HLK hcv
    try clear b1
    try clear ho2
    subst hk
    go_enter Try.func33, Try.ntmps33
    go_upto_region 1 with fail
    rw [← hX, ← hrb, ← hob, ← hcb]
    clear hX hcb hob hrb
    have x0 : X.cell? ⟨cb, 0, none⟩ = some (.string ⟨c.nm.toArray⟩) := Bcb.out.cell 0
    have x1 : X.cell? ⟨cb, 1, none⟩ = some (.int .i64 c.lim) := Bcb.out.cell 1
    have x2 : X.cell? ⟨cb, 2, none⟩ = some (.int .i64 c.val) := Bcb.out.cell 2
    have x3 : X.cell? ⟨cb, 3, none⟩ = some (.int .i64 c.held) := Bcb.out.cell 3
    have x4 : X.cell? ⟨cb, 4, none⟩ = some (.map (some hb)) := Bcb.out.cell 4
    have o0 : X.cell? ⟨ob, 0, none⟩ = some (.int .i64 12) := Bob.out.cell 0
    have o1 : X.cell? ⟨ob, 1, none⟩ = some (.string ⟨n.toArray⟩) := Bob.out.cell 1
    have o2 : X.cell? ⟨ob, 2, none⟩ = some (.int .i64 A) := Bob.out.cell 2
    have o3 : X.cell? ⟨ob, 3, none⟩ = some (.int .i64 B) := Bob.out.cell 3
    go_wp2_with fail
    refine Calls.mono HM.out ?_
    rintro e9 w1 ⟨fv, rfl, hone, hb1, hdo⟩
    have hst : ∀ (A : Addr) (m : Mode) (W : World), (store A fv m).run Try.prog W = stored Try.prog W A fv m := fun A m W => run_store _ _ _ _ _ hone
    have hR1 : Blk w1 rb #[.int .i64 0, .int .i64 0, .nilFunc] 62 := Brb.out.below hb1 Brb.out.lt
    have HDO : Hid _ := hdo
    have HXS : Hid (w.heap.size ≤ X.heap.size) := HBX.out.size
    have HI1 : Hid (HI w1 hb c.H) := HIX.out.same (hb1.block _ HIX.out.lt)
    have HR1 : Hid (Blk w1 rb #[.int .i64 0, .int .i64 0, .nilFunc] 62) := hR1
    have r0 : w1.cell? ⟨rb, 0, none⟩ = some (.int .i64 0) := hR1.cell 0
    have q0 : w1.frozen? ⟨rb, 0, none⟩ = false := hR1.frozen 0
    have r1 : w1.cell? ⟨rb, 1, none⟩ = some (.int .i64 0) := hR1.cell 1
    have q1 : w1.frozen? ⟨rb, 1, none⟩ = false := hR1.frozen 1
    have r2 : w1.cell? ⟨rb, 2, none⟩ = some (.nilFunc) := hR1.cell 2
    have q2 : w1.frozen? ⟨rb, 2, none⟩ = false := hR1.frozen 2
    obtain ⟨Z, hZ⟩ : ∃ Z, Z = (((w1.setCell ⟨rb, 0, none⟩ (.int .i64 R.1.1)).setCell ⟨rb, 1, none⟩ (.int .i64 R.1.2)).setCell ⟨rb, 2, none⟩ (fv)) := ⟨_, rfl⟩
    have HZ : Hid (Blk Z rb #[.int .i64 R.1.1, .int .i64 R.1.2, fv] 62) := show Blk Z rb #[.int .i64 R.1.1, .int .i64 R.1.2, fv] 62 from by rw [hZ]; exact (Blk.set (Blk.set (Blk.set hR1 0 (.int .i64 R.1.1)) 1 (.int .i64 R.1.2)) 2 (fv))
    have HCZ : Hid (Chg (fun b => b = rb) w1 Z) := show Chg (fun b => b = rb) w1 Z from by rw [hZ]; exact (((setCell_chg _ _ _ _).trans (setCell_chg _ _ _ _) (fun _ _ e => e)).trans (setCell_chg _ _ _ _) (fun _ _ e => e))
    have HBZ : Hid (Below w.heap.size w Z) := show Below w.heap.size w Z from by have h := HBX.out.trans (hb1.mono HBX.out.size); exact h.trans (HCZ.out.below h.size (fun k e => by have := HLB.out.2; omega))
    clear hb1 hR1 hdo x0 x1 x2 x3 x4 o0 o1 o2 o3
    go_wp2_with fail
    rw [← hZ]
    refine bodyPost_ret (results_cell_row Try.results33 _ _ rb 62 _ (0, 0) _ rfl HZ.out Try.underlying62 rfl (by kernel_rfl)) rfl ?_
    refine ⟨fv, rfl, hone, HBZ.out, fun hz => ?_⟩
    exact (HDO.out hz).later HCZ.out HXS.out (fun k hk e => by have := Brb.out.lt; omega) (fun k hk => by cases hk; exact ⟨(HI1.out).lt, fun e => HI1.out.ne_b HR1.out e.symm⟩)
  have f12 := hk
  clear hk
  by_cases hk : k = 8
  · have ho2 := ho
    rw [hk] at ho2
    simp [opB] at ho2
    have b1 := amtB_yes ho2.2
    have HO : Hid (ctO k A B q c = takeO A B c) := show _ = _ from by unfold ctO; rw [if_neg (show ¬ k = 2 by omega), if_neg (show ¬ k = 3 by omega), if_neg (show ¬ k = 4 by omega), if_neg (show ¬ (k = 5 ∨ k = 6 ∨ k = 12) by omega), if_pos hk]
    have HM : Hid (Calls Try.prog 53 #[ctV c, .int .i64 A, .int .i64 B] X (PlPost (some hb) c.nm (takeO A B c) X)) := take_any A B X HIX.out hhb (wr (by omega) (by omega))
    rw [hcv] at HM
    rw [HO.out]
    generalize takeO A B c = R at *
    clear ho HO l1 l2 l3 l4 l5 HLK hcv
    try clear b1
    try clear ho2
    subst hk
    go_enter Try.func33, Try.ntmps33
    go_upto_region 1 with fail
    rw [← hX, ← hrb, ← hob, ← hcb]
    clear hX hcb hob hrb
    have x0 : X.cell? ⟨cb, 0, none⟩ = some (.string ⟨c.nm.toArray⟩) := Bcb.out.cell 0
    have x1 : X.cell? ⟨cb, 1, none⟩ = some (.int .i64 c.lim) := Bcb.out.cell 1
    have x2 : X.cell? ⟨cb, 2, none⟩ = some (.int .i64 c.val) := Bcb.out.cell 2
    have x3 : X.cell? ⟨cb, 3, none⟩ = some (.int .i64 c.held) := Bcb.out.cell 3
    have x4 : X.cell? ⟨cb, 4, none⟩ = some (.map (some hb)) := Bcb.out.cell 4
    have o0 : X.cell? ⟨ob, 0, none⟩ = some (.int .i64 8) := Bob.out.cell 0
    have o1 : X.cell? ⟨ob, 1, none⟩ = some (.string ⟨n.toArray⟩) := Bob.out.cell 1
    have o2 : X.cell? ⟨ob, 2, none⟩ = some (.int .i64 A) := Bob.out.cell 2
    have o3 : X.cell? ⟨ob, 3, none⟩ = some (.int .i64 B) := Bob.out.cell 3
    go_wp2_with fail
    refine Calls.mono HM.out ?_
    rintro e9 w1 ⟨fv, rfl, hone, hb1, hdo⟩
    have hst : ∀ (A : Addr) (m : Mode) (W : World), (store A fv m).run Try.prog W = stored Try.prog W A fv m := fun A m W => run_store _ _ _ _ _ hone
    have hR1 : Blk w1 rb #[.int .i64 0, .int .i64 0, .nilFunc] 62 := Brb.out.below hb1 Brb.out.lt
    have HDO : Hid _ := hdo
    have HXS : Hid (w.heap.size ≤ X.heap.size) := HBX.out.size
    have HI1 : Hid (HI w1 hb c.H) := HIX.out.same (hb1.block _ HIX.out.lt)
    have HR1 : Hid (Blk w1 rb #[.int .i64 0, .int .i64 0, .nilFunc] 62) := hR1
    have r0 : w1.cell? ⟨rb, 0, none⟩ = some (.int .i64 0) := hR1.cell 0
    have q0 : w1.frozen? ⟨rb, 0, none⟩ = false := hR1.frozen 0
    have r1 : w1.cell? ⟨rb, 1, none⟩ = some (.int .i64 0) := hR1.cell 1
    have q1 : w1.frozen? ⟨rb, 1, none⟩ = false := hR1.frozen 1
    have r2 : w1.cell? ⟨rb, 2, none⟩ = some (.nilFunc) := hR1.cell 2
    have q2 : w1.frozen? ⟨rb, 2, none⟩ = false := hR1.frozen 2
    obtain ⟨Z, hZ⟩ : ∃ Z, Z = (((w1.setCell ⟨rb, 0, none⟩ (.int .i64 R.1.1)).setCell ⟨rb, 1, none⟩ (.int .i64 R.1.2)).setCell ⟨rb, 2, none⟩ (fv)) := ⟨_, rfl⟩
    have HZ : Hid (Blk Z rb #[.int .i64 R.1.1, .int .i64 R.1.2, fv] 62) := show Blk Z rb #[.int .i64 R.1.1, .int .i64 R.1.2, fv] 62 from by rw [hZ]; exact (Blk.set (Blk.set (Blk.set hR1 0 (.int .i64 R.1.1)) 1 (.int .i64 R.1.2)) 2 (fv))
    have HCZ : Hid (Chg (fun b => b = rb) w1 Z) := show Chg (fun b => b = rb) w1 Z from by rw [hZ]; exact (((setCell_chg _ _ _ _).trans (setCell_chg _ _ _ _) (fun _ _ e => e)).trans (setCell_chg _ _ _ _) (fun _ _ e => e))
    have HBZ : Hid (Below w.heap.size w Z) := show Below w.heap.size w Z from by have h := HBX.out.trans (hb1.mono HBX.out.size); exact h.trans (HCZ.out.below h.size (fun k e => by have := HLB.out.2; omega))
    clear hb1 hR1 hdo x0 x1 x2 x3 x4 o0 o1 o2 o3
    go_wp2_with fail
    rw [← hZ]
    refine bodyPost_ret (results_cell_row Try.results33 _ _ rb 62 _ (0, 0) _ rfl HZ.out Try.underlying62 rfl (by kernel_rfl)) rfl ?_
    refine ⟨fv, rfl, hone, HBZ.out, fun hz => ?_⟩
    exact (HDO.out hz).later HCZ.out HXS.out (fun k hk e => by have := Brb.out.lt; omega) (fun k hk => by cases hk; exact ⟨(HI1.out).lt, fun e => HI1.out.ne_b HR1.out e.symm⟩)
  have f8 := hk
  clear hk
  by_cases hk : k = 9
  · have ho2 := ho
    rw [hk] at ho2
    simp [opB] at ho2
    have b1 := valB_yes ho2.1
    have HO : Hid (ctO k A B q c = resetO A c) := show _ = _ from by unfold ctO; rw [if_neg (show ¬ k = 2 by omega), if_neg (show ¬ k = 3 by omega), if_neg (show ¬ k = 4 by omega), if_neg (show ¬ (k = 5 ∨ k = 6 ∨ k = 12) by omega), if_neg (show ¬ k = 8 by omega), if_pos hk]
    have HM : Hid (Calls Try.prog 54 #[ctV c, .int .i64 A] X (PlPost (some hb) c.nm (resetO A c) X)) := reset_any A X HIX.out hhb (wr (by omega) (by omega))
    rw [hcv] at HM
    rw [HO.out]
    generalize resetO A c = R at *
    clear ho HO l1 l2 l3 l4 l5 HLK hcv
    try clear b1
    try clear ho2
    subst hk
    go_enter Try.func33, Try.ntmps33
    go_upto_region 1 with fail
    rw [← hX, ← hrb, ← hob, ← hcb]
    clear hX hcb hob hrb
    have x0 : X.cell? ⟨cb, 0, none⟩ = some (.string ⟨c.nm.toArray⟩) := Bcb.out.cell 0
    have x1 : X.cell? ⟨cb, 1, none⟩ = some (.int .i64 c.lim) := Bcb.out.cell 1
    have x2 : X.cell? ⟨cb, 2, none⟩ = some (.int .i64 c.val) := Bcb.out.cell 2
    have x3 : X.cell? ⟨cb, 3, none⟩ = some (.int .i64 c.held) := Bcb.out.cell 3
    have x4 : X.cell? ⟨cb, 4, none⟩ = some (.map (some hb)) := Bcb.out.cell 4
    have o0 : X.cell? ⟨ob, 0, none⟩ = some (.int .i64 9) := Bob.out.cell 0
    have o1 : X.cell? ⟨ob, 1, none⟩ = some (.string ⟨n.toArray⟩) := Bob.out.cell 1
    have o2 : X.cell? ⟨ob, 2, none⟩ = some (.int .i64 A) := Bob.out.cell 2
    have o3 : X.cell? ⟨ob, 3, none⟩ = some (.int .i64 B) := Bob.out.cell 3
    go_wp2_with fail
    refine Calls.mono HM.out ?_
    rintro e9 w1 ⟨fv, rfl, hone, hb1, hdo⟩
    have hst : ∀ (A : Addr) (m : Mode) (W : World), (store A fv m).run Try.prog W = stored Try.prog W A fv m := fun A m W => run_store _ _ _ _ _ hone
    have hR1 : Blk w1 rb #[.int .i64 0, .int .i64 0, .nilFunc] 62 := Brb.out.below hb1 Brb.out.lt
    have HDO : Hid _ := hdo
    have HXS : Hid (w.heap.size ≤ X.heap.size) := HBX.out.size
    have HI1 : Hid (HI w1 hb c.H) := HIX.out.same (hb1.block _ HIX.out.lt)
    have HR1 : Hid (Blk w1 rb #[.int .i64 0, .int .i64 0, .nilFunc] 62) := hR1
    have r0 : w1.cell? ⟨rb, 0, none⟩ = some (.int .i64 0) := hR1.cell 0
    have q0 : w1.frozen? ⟨rb, 0, none⟩ = false := hR1.frozen 0
    have r1 : w1.cell? ⟨rb, 1, none⟩ = some (.int .i64 0) := hR1.cell 1
    have q1 : w1.frozen? ⟨rb, 1, none⟩ = false := hR1.frozen 1
    have r2 : w1.cell? ⟨rb, 2, none⟩ = some (.nilFunc) := hR1.cell 2
    have q2 : w1.frozen? ⟨rb, 2, none⟩ = false := hR1.frozen 2
    obtain ⟨Z, hZ⟩ : ∃ Z, Z = (((w1.setCell ⟨rb, 0, none⟩ (.int .i64 R.1.1)).setCell ⟨rb, 1, none⟩ (.int .i64 R.1.2)).setCell ⟨rb, 2, none⟩ (fv)) := ⟨_, rfl⟩
    have HZ : Hid (Blk Z rb #[.int .i64 R.1.1, .int .i64 R.1.2, fv] 62) := show Blk Z rb #[.int .i64 R.1.1, .int .i64 R.1.2, fv] 62 from by rw [hZ]; exact (Blk.set (Blk.set (Blk.set hR1 0 (.int .i64 R.1.1)) 1 (.int .i64 R.1.2)) 2 (fv))
    have HCZ : Hid (Chg (fun b => b = rb) w1 Z) := show Chg (fun b => b = rb) w1 Z from by rw [hZ]; exact (((setCell_chg _ _ _ _).trans (setCell_chg _ _ _ _) (fun _ _ e => e)).trans (setCell_chg _ _ _ _) (fun _ _ e => e))
    have HBZ : Hid (Below w.heap.size w Z) := show Below w.heap.size w Z from by have h := HBX.out.trans (hb1.mono HBX.out.size); exact h.trans (HCZ.out.below h.size (fun k e => by have := HLB.out.2; omega))
    clear hb1 hR1 hdo x0 x1 x2 x3 x4 o0 o1 o2 o3
    go_wp2_with fail
    rw [← hZ]
    refine bodyPost_ret (results_cell_row Try.results33 _ _ rb 62 _ (0, 0) _ rfl HZ.out Try.underlying62 rfl (by kernel_rfl)) rfl ?_
    refine ⟨fv, rfl, hone, HBZ.out, fun hz => ?_⟩
    exact (HDO.out hz).later HCZ.out HXS.out (fun k hk e => by have := Brb.out.lt; omega) (fun k hk => by cases hk; exact ⟨(HI1.out).lt, fun e => HI1.out.ne_b HR1.out e.symm⟩)
  have f9 := hk
  clear hk
  by_cases hk : k = 10
  · have ho2 := ho
    rw [hk] at ho2
    simp [opB] at ho2
    have b1 := amtB_yes ho2.1
    have HO : Hid (ctO k A B q c = recapO A c) := show _ = _ from by unfold ctO; rw [if_neg (show ¬ k = 2 by omega), if_neg (show ¬ k = 3 by omega), if_neg (show ¬ k = 4 by omega), if_neg (show ¬ (k = 5 ∨ k = 6 ∨ k = 12) by omega), if_neg (show ¬ k = 8 by omega), if_neg (show ¬ k = 9 by omega), if_pos hk]
    have HM : Hid (Calls Try.prog 55 #[ctV c, .int .i64 A] X (PlPost (some hb) c.nm (recapO A c) X)) := recap_any A X HIX.out hhb (wr (by omega) (by omega))
    rw [hcv] at HM
    rw [HO.out]
    generalize recapO A c = R at *
    clear ho HO l1 l2 l3 l4 l5 HLK hcv
    try clear b1
    try clear ho2
    subst hk
    go_enter Try.func33, Try.ntmps33
    go_upto_region 1 with fail
    rw [← hX, ← hrb, ← hob, ← hcb]
    clear hX hcb hob hrb
    have x0 : X.cell? ⟨cb, 0, none⟩ = some (.string ⟨c.nm.toArray⟩) := Bcb.out.cell 0
    have x1 : X.cell? ⟨cb, 1, none⟩ = some (.int .i64 c.lim) := Bcb.out.cell 1
    have x2 : X.cell? ⟨cb, 2, none⟩ = some (.int .i64 c.val) := Bcb.out.cell 2
    have x3 : X.cell? ⟨cb, 3, none⟩ = some (.int .i64 c.held) := Bcb.out.cell 3
    have x4 : X.cell? ⟨cb, 4, none⟩ = some (.map (some hb)) := Bcb.out.cell 4
    have o0 : X.cell? ⟨ob, 0, none⟩ = some (.int .i64 10) := Bob.out.cell 0
    have o1 : X.cell? ⟨ob, 1, none⟩ = some (.string ⟨n.toArray⟩) := Bob.out.cell 1
    have o2 : X.cell? ⟨ob, 2, none⟩ = some (.int .i64 A) := Bob.out.cell 2
    have o3 : X.cell? ⟨ob, 3, none⟩ = some (.int .i64 B) := Bob.out.cell 3
    go_wp2_with fail
    refine Calls.mono HM.out ?_
    rintro e9 w1 ⟨fv, rfl, hone, hb1, hdo⟩
    have hst : ∀ (A : Addr) (m : Mode) (W : World), (store A fv m).run Try.prog W = stored Try.prog W A fv m := fun A m W => run_store _ _ _ _ _ hone
    have hR1 : Blk w1 rb #[.int .i64 0, .int .i64 0, .nilFunc] 62 := Brb.out.below hb1 Brb.out.lt
    have HDO : Hid _ := hdo
    have HXS : Hid (w.heap.size ≤ X.heap.size) := HBX.out.size
    have HI1 : Hid (HI w1 hb c.H) := HIX.out.same (hb1.block _ HIX.out.lt)
    have HR1 : Hid (Blk w1 rb #[.int .i64 0, .int .i64 0, .nilFunc] 62) := hR1
    have r0 : w1.cell? ⟨rb, 0, none⟩ = some (.int .i64 0) := hR1.cell 0
    have q0 : w1.frozen? ⟨rb, 0, none⟩ = false := hR1.frozen 0
    have r1 : w1.cell? ⟨rb, 1, none⟩ = some (.int .i64 0) := hR1.cell 1
    have q1 : w1.frozen? ⟨rb, 1, none⟩ = false := hR1.frozen 1
    have r2 : w1.cell? ⟨rb, 2, none⟩ = some (.nilFunc) := hR1.cell 2
    have q2 : w1.frozen? ⟨rb, 2, none⟩ = false := hR1.frozen 2
    obtain ⟨Z, hZ⟩ : ∃ Z, Z = (((w1.setCell ⟨rb, 0, none⟩ (.int .i64 R.1.1)).setCell ⟨rb, 1, none⟩ (.int .i64 R.1.2)).setCell ⟨rb, 2, none⟩ (fv)) := ⟨_, rfl⟩
    have HZ : Hid (Blk Z rb #[.int .i64 R.1.1, .int .i64 R.1.2, fv] 62) := show Blk Z rb #[.int .i64 R.1.1, .int .i64 R.1.2, fv] 62 from by rw [hZ]; exact (Blk.set (Blk.set (Blk.set hR1 0 (.int .i64 R.1.1)) 1 (.int .i64 R.1.2)) 2 (fv))
    have HCZ : Hid (Chg (fun b => b = rb) w1 Z) := show Chg (fun b => b = rb) w1 Z from by rw [hZ]; exact (((setCell_chg _ _ _ _).trans (setCell_chg _ _ _ _) (fun _ _ e => e)).trans (setCell_chg _ _ _ _) (fun _ _ e => e))
    have HBZ : Hid (Below w.heap.size w Z) := show Below w.heap.size w Z from by have h := HBX.out.trans (hb1.mono HBX.out.size); exact h.trans (HCZ.out.below h.size (fun k e => by have := HLB.out.2; omega))
    clear hb1 hR1 hdo x0 x1 x2 x3 x4 o0 o1 o2 o3
    go_wp2_with fail
    rw [← hZ]
    refine bodyPost_ret (results_cell_row Try.results33 _ _ rb 62 _ (0, 0) _ rfl HZ.out Try.underlying62 rfl (by kernel_rfl)) rfl ?_
    refine ⟨fv, rfl, hone, HBZ.out, fun hz => ?_⟩
    exact (HDO.out hz).later HCZ.out HXS.out (fun k hk e => by have := Brb.out.lt; omega) (fun k hk => by cases hk; exact ⟨(HI1.out).lt, fun e => HI1.out.ne_b HR1.out e.symm⟩)
  have f10 := hk
  clear hk
  have HO : Hid (ctO k A B q c = readO c) := show _ = _ from by unfold ctO; rw [if_neg f2, if_neg f3, if_neg f4, if_neg (show ¬ (k = 5 ∨ k = 6 ∨ k = 12) by omega), if_neg f8, if_neg f9, if_neg f10]
  have HM : Hid (Calls Try.prog 56 #[ctV c] X (PlPost (some hb) c.nm (readO c) X)) := read_any X HIX.out hhb
  rw [hcv] at HM
  rw [HO.out]
  generalize readO c = R at *
  clear ho HO l1 l2 l3 l4 l5 HLK hcv
  try clear b1
  try clear ho2
  have e2 : (k == 2) = false := by rw [beq_eq_false_iff_ne]; exact f2
  have e3 : (k == 3) = false := by rw [beq_eq_false_iff_ne]; exact f3
  have e4 : (k == 4) = false := by rw [beq_eq_false_iff_ne]; exact f4
  have e5 : (k == 5) = false := by rw [beq_eq_false_iff_ne]; exact f5
  have e6 : (k == 6) = false := by rw [beq_eq_false_iff_ne]; exact f6
  have e12 : (k == 12) = false := by rw [beq_eq_false_iff_ne]; exact f12
  have e8 : (k == 8) = false := by rw [beq_eq_false_iff_ne]; exact f8
  have e9 : (k == 9) = false := by rw [beq_eq_false_iff_ne]; exact f9
  have e10 : (k == 10) = false := by rw [beq_eq_false_iff_ne]; exact f10
  clear f2 f3 f4 f5 f6 f12 f8 f9 f10
  go_enter Try.func33, Try.ntmps33
  go_upto_region 1 with fail
  rw [← hX, ← hrb, ← hob, ← hcb]
  clear hX hcb hob hrb
  have x0 : X.cell? ⟨cb, 0, none⟩ = some (.string ⟨c.nm.toArray⟩) := Bcb.out.cell 0
  have x1 : X.cell? ⟨cb, 1, none⟩ = some (.int .i64 c.lim) := Bcb.out.cell 1
  have x2 : X.cell? ⟨cb, 2, none⟩ = some (.int .i64 c.val) := Bcb.out.cell 2
  have x3 : X.cell? ⟨cb, 3, none⟩ = some (.int .i64 c.held) := Bcb.out.cell 3
  have x4 : X.cell? ⟨cb, 4, none⟩ = some (.map (some hb)) := Bcb.out.cell 4
  have o0 : X.cell? ⟨ob, 0, none⟩ = some (.int .i64 k) := Bob.out.cell 0
  have o1 : X.cell? ⟨ob, 1, none⟩ = some (.string ⟨n.toArray⟩) := Bob.out.cell 1
  have o2 : X.cell? ⟨ob, 2, none⟩ = some (.int .i64 A) := Bob.out.cell 2
  have o3 : X.cell? ⟨ob, 3, none⟩ = some (.int .i64 B) := Bob.out.cell 3
  go_wp2_with fail
  refine Calls.mono HM.out ?_
  rintro e9 w1 ⟨fv, rfl, hone, hb1, hdo⟩
  have hst : ∀ (A : Addr) (m : Mode) (W : World), (store A fv m).run Try.prog W = stored Try.prog W A fv m := fun A m W => run_store _ _ _ _ _ hone
  have hR1 : Blk w1 rb #[.int .i64 0, .int .i64 0, .nilFunc] 62 := Brb.out.below hb1 Brb.out.lt
  have HDO : Hid _ := hdo
  have HXS : Hid (w.heap.size ≤ X.heap.size) := HBX.out.size
  have HI1 : Hid (HI w1 hb c.H) := HIX.out.same (hb1.block _ HIX.out.lt)
  have HR1 : Hid (Blk w1 rb #[.int .i64 0, .int .i64 0, .nilFunc] 62) := hR1
  have r0 : w1.cell? ⟨rb, 0, none⟩ = some (.int .i64 0) := hR1.cell 0
  have q0 : w1.frozen? ⟨rb, 0, none⟩ = false := hR1.frozen 0
  have r1 : w1.cell? ⟨rb, 1, none⟩ = some (.int .i64 0) := hR1.cell 1
  have q1 : w1.frozen? ⟨rb, 1, none⟩ = false := hR1.frozen 1
  have r2 : w1.cell? ⟨rb, 2, none⟩ = some (.nilFunc) := hR1.cell 2
  have q2 : w1.frozen? ⟨rb, 2, none⟩ = false := hR1.frozen 2
  obtain ⟨Z, hZ⟩ : ∃ Z, Z = (((w1.setCell ⟨rb, 0, none⟩ (.int .i64 R.1.1)).setCell ⟨rb, 1, none⟩ (.int .i64 R.1.2)).setCell ⟨rb, 2, none⟩ (fv)) := ⟨_, rfl⟩
  have HZ : Hid (Blk Z rb #[.int .i64 R.1.1, .int .i64 R.1.2, fv] 62) := show Blk Z rb #[.int .i64 R.1.1, .int .i64 R.1.2, fv] 62 from by rw [hZ]; exact (Blk.set (Blk.set (Blk.set hR1 0 (.int .i64 R.1.1)) 1 (.int .i64 R.1.2)) 2 (fv))
  have HCZ : Hid (Chg (fun b => b = rb) w1 Z) := show Chg (fun b => b = rb) w1 Z from by rw [hZ]; exact (((setCell_chg _ _ _ _).trans (setCell_chg _ _ _ _) (fun _ _ e => e)).trans (setCell_chg _ _ _ _) (fun _ _ e => e))
  have HBZ : Hid (Below w.heap.size w Z) := show Below w.heap.size w Z from by have h := HBX.out.trans (hb1.mono HBX.out.size); exact h.trans (HCZ.out.below h.size (fun k e => by have := HLB.out.2; omega))
  clear hb1 hR1 hdo x0 x1 x2 x3 x4 o0 o1 o2 o3
  go_wp2_with fail
  rw [← hZ]
  refine bodyPost_ret (results_cell_row Try.results33 _ _ rb 62 _ (0, 0) _ rfl HZ.out Try.underlying62 rfl (by kernel_rfl)) rfl ?_
  refine ⟨fv, rfl, hone, HBZ.out, fun hz => ?_⟩
  exact (HDO.out hz).later HCZ.out HXS.out (fun k hk e => by have := Brb.out.lt; omega) (fun k hk => by cases hk; exact ⟨(HI1.out).lt, fun e => HI1.out.ne_b HR1.out e.symm⟩)
end Go.Proofs.Ytaiknlnjahjeiaa
