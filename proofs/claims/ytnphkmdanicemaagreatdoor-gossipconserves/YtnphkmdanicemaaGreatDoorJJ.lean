import Derived.Test.YtnphkmdanicemaaGreatDoorG1
import Derived.Test.YtnphkmdanicemaaGreatDoorG2
import Derived.Test.YtnphkmdanicemaaGreatDoorVGiv
import Derived.Test.YtnphkmdanicemaaGreatDoorVMost
import Derived.Test.YtnphkmdanicemaaGreatDoorVRe
import Derived.Test.YtnphkmdanicemaaGreatDoorVPlan
namespace Go.Proofs.YtnphkmdanicemaaGreatDoor
open Go.RowKit Go.PlainAid Go.MapKept
set_option linter.unusedVariables false
set_option linter.unusedSimpArgs false
def askD (me : Int) (rs : List Rg) (N : Nat) : Int := (askTo me (rs.map (·.1)) N).1
def askU (me : Int) (rs : List Rg) (N : Nat) : Int := (askTo me (rs.map (·.2)) N).1
def whomI (me : Int) (rs : List Rg) (N : Nat) (wd wu : Int) : Int := if (if 0 < wd then askD me rs N else -1) = -1 ∧ 0 < wu then askU me rs N else (if 0 < wd then askD me rs N else -1)
set_option maxRecDepth 100000 in
set_option maxHeartbeats 3200000 in
theorem whom_any {gb mb g N : Nat} {me : Int} {L : GL} {rs : List Rg} (wd wu : Int) (w : World) (h : Gs gb mb me N L w) (hme : IntKind.i64.wrap me = me) (hl : rs.length = N) (hB : Blk w g (flatR rs).toArray 37) (hN : N ≤ 16) :
    Calls Tryz.prog 40 #[.pointer (some ⟨gb, 0, none⟩), .agg #[.int .i64 wd, .int .i64 wu], .slice (some ⟨g, 0, none⟩) N N] w fun e w' => e = .returned (.int .i64 (whomI me rs N wd wu)) ∧ Below w.heap.size w w' := by
  obtain ⟨ob, hob⟩ : ∃ ob, ob = w.heap.size := ⟨_, rfl⟩
  obtain ⟨X, hX⟩ : ∃ X, X = w.alloc (.cells #[.int .i64 wd, .int .i64 wu] 37) := ⟨_, rfl⟩
  have hbX : Below w.heap.size w X := by rw [hX]; exact (Below.refl _ _).alloc (Nat.le_refl _) _
  have hBo : Blk X ob #[.int .i64 wd, .int .i64 wu] 37 := by rw [hX, hob]; exact heap_alloc_new w _
  have HBX : Hid (Below w.heap.size w X) := hbX
  have HBO : Hid (Blk X ob #[.int .i64 wd, .int .i64 wu] 37) := hBo
  have x0 : X.cell? ⟨ob, 0, none⟩ = some (.int .i64 wd) := hBo.cell 0
  have x1 : X.cell? ⟨ob, 1, none⟩ = some (.int .i64 wu) := hBo.cell 1
  have HMD : Hid (∀ W, Below w.heap.size w W → Calls Tryz.prog 63 #[.pointer (some ⟨gb, 0, none⟩), .slice (some ⟨g, 0, none⟩) N N, .func (.func 64) #[] #[]] W fun e w' => e = .returned (.int .i64 (askD me rs N)) ∧ Below W.heap.size W w') := fun W hb => most_downs W (h.more hb) hme hl (hB.below hb hB.lt) hN
  have HMU : Hid (∀ W, Below w.heap.size w W → Calls Tryz.prog 63 #[.pointer (some ⟨gb, 0, none⟩), .slice (some ⟨g, 0, none⟩) N N, .func (.func 65) #[] #[]] W fun e w' => e = .returned (.int .i64 (askU me rs N)) ∧ Below W.heap.size W w') := fun W hb => most_ups W (h.more hb) hme hl (hB.below hb hB.lt) hN
  obtain ⟨R, hR⟩ : ∃ R, R = whomI me rs N wd wu := ⟨_, rfl⟩
  rw [← hR]
  unfold whomI at hR
  generalize askD me rs N = ad at *
  generalize askU me rs N = au at *
  clear h hl hB hbX hBo
  by_cases h1 : 0 < wd
  · rw [if_pos h1] at hR
    have HR : Hid (R = if ad = -1 ∧ 0 < wu then au else ad) := hR
    clear hR
    go_enter Tryz.func40, Tryz.ntmps40
    go_upto_region 1 with fail
    rw [← hX, ← hob]
    clear hX hob
    go_wp2_with fail
    refine Calls.mono (HMD.out X HBX.out) ?_
    rintro e9 V ⟨rfl, hbV⟩
    have HBV : Hid (Below w.heap.size w V) := HBX.out.trans (hbV.mono HBX.out.size)
    have v1 : V.cell? ⟨ob, 1, none⟩ = some (.int .i64 wu) := (HBO.out.below hbV HBO.out.lt).cell 1
    clear hbV x0 x1
    by_cases h2 : ad = -1
    · have h2b : (ad == -1) = true := by simpa using h2
      by_cases h3 : 0 < wu
      · go_wp2_with fail
        refine Calls.mono (HMU.out V HBV.out) ?_
        rintro e9 U ⟨rfl, hbU⟩
        have HBU : Hid (Below w.heap.size w U) := HBV.out.trans (hbU.mono HBV.out.size)
        have HRR : Hid (R = au) := show R = au from by rw [HR.out, if_pos ⟨h2, h3⟩]
        clear hbU v1 h2 h2b
        go_wp2_with fail
        go_ret
        exact ⟨by rw [HRR.out]; rfl, HBU.out⟩
      · have HRR : Hid (R = ad) := show R = ad from by rw [HR.out, if_neg (fun e => h3 e.2)]
        clear h2
        go_wp2_with fail
        go_ret
        exact ⟨by rw [HRR.out]; rfl, HBV.out⟩
    · have h2b : (ad == -1) = false := by simpa using h2
      have HRR : Hid (R = ad) := show R = ad from by rw [HR.out, if_neg (fun e => h2 e.1)]
      clear h2
      go_wp2_with fail
      go_ret
      exact ⟨by rw [HRR.out]; rfl, HBV.out⟩
  · rw [if_neg h1] at hR
    by_cases h3 : 0 < wu
    · have HRR : Hid (R = au) := show R = au from by rw [hR, if_pos ⟨rfl, h3⟩]
      clear hR
      go_enter Tryz.func40, Tryz.ntmps40
      go_upto_region 1 with fail
      rw [← hX, ← hob]
      clear hX hob
      go_wp2_with fail
      refine Calls.mono (HMU.out X HBX.out) ?_
      rintro e9 U ⟨rfl, hbU⟩
      have HBU : Hid (Below w.heap.size w U) := HBX.out.trans (hbU.mono HBX.out.size)
      clear hbU x0 x1
      go_wp2_with fail
      go_ret
      exact ⟨by rw [HRR.out]; rfl, HBU.out⟩
    · have HRR : Hid (R = -1) := show R = -1 from by rw [hR, if_neg (fun e => h3 e.2)]
      clear hR
      go_enter Tryz.func40, Tryz.ntmps40
      go_upto_region 1 with fail
      rw [← hX, ← hob]
      clear hX hob
      go_wp2_with fail
      go_ret
      exact ⟨by rw [HRR.out]; rfl, HBX.out⟩
end Go.Proofs.YtnphkmdanicemaaGreatDoor
namespace Go.Proofs.YtnphkmdanicemaaGreatDoor
open Go.RowKit Go.PlainAid Go.MapKept
set_option linter.unusedVariables false
set_option linter.unusedSimpArgs false
theorem zero36 (w : World) : (zeroValue 37).run Tryz.prog w = .ok (.agg #[.int .i64 0, .int .i64 0]) w := by kernel_rfl
theorem set2_below {L : Nat} {W0 W : World} {bx : Nat} (h : Below L W0 W) (hl : L ≤ bx) (v0 v1 : Value) : Below L W0 ((W.setCell ⟨bx, 0, none⟩ v0).setCell ⟨bx, 1, none⟩ v1) := by
  have s1 : ∀ (W : World) (j : Nat) (v : Value), Below L W0 W → Below L W0 (W.setCell ⟨bx, j, none⟩ v) := fun W j v h => h.trans ⟨rfl, rfl, rfl, by simp [World.setCell], fun k hk => Below.heap_setCell _ _ _ _ (Nat.ne_of_lt (Nat.lt_of_lt_of_le hk hl))⟩
  exact s1 _ _ _ (s1 _ _ _ h)
theorem storeR {W : World} {bx : Nat} {c0 c1 : Value} (h : Blk W bx #[c0, c1] 37) (d u : Int) {ev : Operand → Value} {o : Oper} {x y : Operand} (ho : o.op = .store 37 x y) (hx : ev x = .pointer (some ⟨bx, 0, none⟩)) (hy : ev y = .agg #[.int .i64 d, .int .i64 u]) : (execOp ev o).run Tryz.prog W = .ok .skip ((W.setCell ⟨bx, 0, none⟩ (.int .i64 d)).setCell ⟨bx, 1, none⟩ (.int .i64 u)) := by
  have f0 : World.frozen? W ⟨bx, 0, none⟩ = false := h.frozen 0
  have d0 : World.cell? W ⟨bx, 0, none⟩ = some c0 := h.cell 0
  have b1 := h.set 0 (.int .i64 d)
  have f1 : World.frozen? (W.setCell ⟨bx, 0, none⟩ (.int .i64 d)) ⟨bx, 1, none⟩ = false := b1.frozen 1
  have d1 : World.cell? (W.setCell ⟨bx, 0, none⟩ (.int .i64 d)) ⟨bx, 1, none⟩ = some c1 := b1.cell 1
  clear b1
  simp only [execOp, ho, hx, hy]
  simp [go_sem, f0, d0, f1, d1]
theorem results_three {fn : Func} {p a c : Tmp} (h : fn.results = #[.tmp a, .cell p 37, .tmp c]) (tmps : Array Value) (w : World) (g : Nat) (cs : Array Value) (v u : Value)
    (hp : tmps.getD p undef = .pointer (some ⟨g, 0, none⟩)) (hv : tmps.getD a undef = v) (hu : tmps.getD c undef = u) (hg : Blk w g cs 37) (hi : (Tryz.prog.info? 37).map (·.size) = some cs.size) :
    (results fn tmps).run Tryz.prog w = .ok (.tuple #[v, .agg cs, u]) w := by
  have hld := run_loadVar_row (P := Tryz.prog) w g 37 37 cs (0, 0) _ hg Tryz.underlying37 rfl hi
  have hp' : tmps[p]?.getD undef = .pointer (some ⟨g, 0, none⟩) := by simpa using hp
  have hv' : tmps[a]?.getD undef = v := by simpa using hv
  have hu' : tmps[c]?.getD undef = u := by simpa using hu
  simp [results, h, hp', hv', hu', asAddr, hld]
/-- What a Tick tells, and what is lacking then. -/
def tickR (me : Int) (k : List UInt8) (L : GL) (rs : List Rg) (N : Nat) (wd wu : Int) : (Int × Int × Int × Bool) × GL := if wd = 0 ∧ wu = 0 then ((0, 0, 0, false), Gm.rmK k L) else if whomI me rs N wd wu = -1 then ((0, 0, 0, false), L) else ((whomI me rs N wd wu, wd, wu, true), Gm.rmK k L)
def tickV (t : Int × Int × Int × Bool) : Value := .tuple #[.int .i64 t.1, .agg #[.int .i64 t.2.1, .int .i64 t.2.2.1], .bool t.2.2.2]
theorem eql36 (a b c d : Int) (w : World) : (binOp .eql 37 (.agg #[.int .i64 a, .int .i64 b]) (.agg #[.int .i64 c, .int .i64 d])).run Tryz.prog w = .ok (.bool ((a == c) && (b == d))) w := by
  by_cases h1 : a = c
  · by_cases h2 : b = d
    · subst h1 h2
      simp [go_sem]
    · subst h1
      simp [go_sem, h2]
  · simp [go_sem, h1]
set_option maxRecDepth 100000 in
set_option maxHeartbeats 6400000 in
theorem tick_any {gb mb lb hb vb N : Nat} {me : Int} {L : GL} {s : Led.LS} {VL : List Ent} (k : List UInt8) (w : World) (h : Gs gb mb me N L w) (hs : Led.Blk w lb s.cs 82) (hV : Vw hb vb me N VL w) (hme : IntKind.i64.wrap me = me) (hN : N ≤ 16) (h1 : IntKind.i64.wrap ((lk k L).1 - s.d) = (lk k L).1 - s.d) (h2 : IntKind.i64.wrap ((lk k L).2 - s.u) = (lk k L).2 - s.u) :
    Calls Tryz.prog 14 #[.pointer (some ⟨gb, 0, none⟩), .string ⟨k.toArray⟩, .pointer (some ⟨lb, 0, none⟩), .pointer (some ⟨hb, 0, none⟩)] w fun e w' => e = .returned (tickV (tickR me k L (knownL k VL N) N (byd (lk k L).1 s.d) (byd (lk k L).2 s.u)).1) ∧ Gs gb mb me N (tickR me k L (knownL k VL N) N (byd (lk k L).1 s.d) (byd (lk k L).2 s.u)).2 w' ∧ Chg (fun b => b = mb) w w' := by
  obtain ⟨wd, hwd⟩ : ∃ wd, wd = byd (lk k L).1 s.d := ⟨_, rfl⟩
  obtain ⟨wu, hwu⟩ : ∃ wu, wu = byd (lk k L).2 s.u := ⟨_, rfl⟩
  rw [← hwd, ← hwu]
  obtain ⟨RR, hRR⟩ : ∃ RR, RR = tickR me k L (knownL k VL N) N wd wu := ⟨_, rfl⟩
  rw [← hRR]
  have HRR : Hid (RR = tickR me k L (knownL k VL N) N wd wu) := hRR
  obtain ⟨rb, hrb⟩ : ∃ rb, rb = w.heap.size := ⟨_, rfl⟩
  obtain ⟨X, hX⟩ : ∃ X, X = w.alloc (.cells #[.int .i64 0, .int .i64 0] 37) := ⟨_, rfl⟩
  have hbX : Below w.heap.size w X := by rw [hX]; exact (Below.refl _ _).alloc (Nat.le_refl _) _
  have HBX0 : Hid (Below w.heap.size w X) := hbX
  have HRB : Hid (Blk X rb #[.int .i64 0, .int .i64 0] 37) := show Blk X rb #[.int .i64 0, .int .i64 0] 37 from by rw [hX, hrb]; exact heap_alloc_new w _
  have HRL : Hid (w.heap.size ≤ rb) := show w.heap.size ≤ rb from by rw [hrb]; exact Nat.le_refl _
  have HGX : Hid (Gs gb mb me N L X) := h.more hbX
  have HVX : Hid (Vw hb vb me N VL X) := hV.more hbX
  have HRT : Hid (∀ W, Below X.heap.size X W → Calls Tryz.prog 11 #[.pointer (some ⟨lb, 0, none⟩)] W fun r w' => r = .returned (.agg #[.int .i64 s.d, .int .i64 s.u]) ∧ Below W.heap.size W w') := fun W hb2 => Led.rights_any W (Led.Blk.below hs (hbX.trans (hb2.mono hbX.size)) (Led.Blk.lt hs))
  have HBY : Hid (∀ W, Calls Tryz.prog 39 #[.agg #[.int .i64 (lk k L).1, .int .i64 (lk k L).2], .agg #[.int .i64 s.d, .int .i64 s.u]] W fun r w' => r = .returned (.agg #[.int .i64 wd, .int .i64 wu]) ∧ Below W.heap.size W w') := fun W => by rw [hwd, hwu]; exact beyond_any _ _ _ _ W h1 h2
  generalize hl1 : (lk k L).1 = l1 at *
  generalize hl2 : (lk k L).2 = l2 at *
  have HL1 : Hid ((lk k L).1 = l1) := hl1
  have HL2 : Hid ((lk k L).2 = l2) := hl2
  clear h hs hV h1 h2 hl1 hl2 hwd hwu hRR hbX
  go_enter Tryz.func14, Tryz.ntmps14
  go_upto_region 1 with fail
  rw [← hX, ← hrb]
  clear hX hrb
  go_wp2_with fail
  rename_i K hK
  try rw [show ∀ a : Act, a.put none undef = a from fun _ => rfl]
  have hrest : ∀ (a : Act) (f' : Nat → Value) (Y : World) (bx : Nat), Fr 47 a f' → f' 0 = Value.pointer (some ⟨gb, 0, none⟩) → f' 1 = Value.string ⟨k.toArray⟩ → f' 2 = Value.pointer (some ⟨lb, 0, none⟩) → f' 3 = Value.pointer (some ⟨hb, 0, none⟩) → f' 8 = Value.int .i64 0 → f' 9 = Value.pointer (some ⟨rb, 0, none⟩) → f' 10 = Value.bool false → f' 11 = Value.pointer (some ⟨bx, 0, none⟩) → Blk Y bx #[.int .i64 wd, .int .i64 wu] 37 → X.heap.size ≤ bx → Below X.heap.size X Y → K a Y := by
    intro a f' Y bx F' k0 k1 k2 k3 k8 k9 k10 k11 hBx hlx hCx
    refine hK _ _ ?_
    rw [F'.lit, show ((List.range 47).map f').toArray = #[f' 0, f' 1, f' 2, f' 3, f' 4, f' 5, f' 6, f' 7, f' 8, f' 9, f' 10, f' 11, f' 12, f' 13, f' 14, f' 15, f' 16, f' 17, f' 18, f' 19, f' 20, f' 21, f' 22, f' 23, f' 24, f' 25, f' 26, f' 27, f' 28, f' 29, f' 30, f' 31, f' 32, f' 33, f' 34, f' 35, f' 36, f' 37, f' 38, f' 39, f' 40, f' 41, f' 42, f' 43, f' 44, f' 45, f' 46] from rfl, k0, k1, k2, k3, k8, k9, k10, k11]
    have HBX : Hid (Blk Y bx #[.int .i64 wd, .int .i64 wu] 37) := hBx
    have HGY : Hid (Gs gb mb me N L Y) := HGX.out.more hCx
    have HVY : Hid (Vw hb vb me N VL Y) := HVX.out.more hCx
    have HRY : Hid (Blk Y rb #[.int .i64 0, .int .i64 0] 37) := HRB.out.below hCx HRB.out.lt
    have HWY : Hid (Below w.heap.size w Y) := HBX0.out.trans (hCx.mono HBX0.out.size)
    have hrl : rb ≠ bx := by have := HRB.out.lt; omega
    have b0 : Y.cell? ⟨bx, 0, none⟩ = some (.int .i64 wd) := hBx.cell 0
    have b1 : Y.cell? ⟨bx, 1, none⟩ = some (.int .i64 wu) := hBx.cell 1
    have g2 : Y.cell? ⟨gb, 2, none⟩ = some (.map (some mb)) := HGY.out.blk.cell 2
    clear hK F' k0 k1 k2 k3 k8 k9 k10 k11 hBx hlx hCx
    by_cases hz : wd = 0 ∧ wu = 0
    · obtain ⟨rfl, rfl⟩ := hz
      have HRE : Hid (RR = ((0, 0, 0, false), Gm.rmK k L)) := show RR = ((0, 0, 0, false), Gm.rmK k L) from by rw [HRR.out]; unfold tickR; rw [if_pos ⟨rfl, rfl⟩]
      obtain ⟨w4, hdel, hm4, hc4, hs4⟩ := HGY.out.map.del k
      have hdel : ∀ ty, (Builtin.delete_ #[70, 9] ty #[.map (some mb), .string ⟨k.toArray⟩]).run Tryz.prog Y = .ok (.tuple #[]) w4 := hdel
      have HG4 := HGY.out.set hc4 hm4
      have hR4 : Blk w4 rb #[.int .i64 0, .int .i64 0] 37 := hc4.blk HRY.out (HGY.out.map.ne_b HRY.out)
      have c0 : w4.cell? ⟨rb, 0, none⟩ = some (.int .i64 0) := hR4.cell 0
      have c1 : w4.cell? ⟨rb, 1, none⟩ = some (.int .i64 0) := hR4.cell 1
      have f0 : w4.frozen? ⟨rb, 0, none⟩ = false := hR4.frozen 0
      have f1 : w4.frozen? ⟨rb, 1, none⟩ = false := hR4.frozen 1
      have hcr : Chg (fun b => b = rb) w4 ((w4.setCell ⟨rb, 0, none⟩ (.int .i64 0)).setCell ⟨rb, 1, none⟩ (.int .i64 0)) := (setCell_chg w4 rb 0 _).trans (setCell_chg _ rb 1 _) (fun _ _ e => e)
      have HFR : Hid (Blk ((w4.setCell ⟨rb, 0, none⟩ (.int .i64 0)).setCell ⟨rb, 1, none⟩ (.int .i64 0)) rb #[.int .i64 0, .int .i64 0] 37) := (hR4.set 0 (.int .i64 0)).set 1 (.int .i64 0)
      have HFG : Hid (Gs gb mb me N (Gm.rmK k L) ((w4.setCell ⟨rb, 0, none⟩ (.int .i64 0)).setCell ⟨rb, 1, none⟩ (.int .i64 0))) := HG4.keep hcr (HG4.blk.ne_t hR4 (by decide)) (fun e => HG4.map.ne_b hR4 e.symm)
      have HFC : Hid (Chg (fun b => b = mb) w ((w4.setCell ⟨rb, 0, none⟩ (.int .i64 0)).setCell ⟨rb, 1, none⟩ (.int .i64 0))) := ((Chg.ofBelow _ HWY.out).trans hc4 (fun _ _ e => e)).trans hcr (fun j hj e => by have := HRL.out; omega)
      clear HG4 hR4 hcr hm4 hc4 hs4
      go_wp2_with fail
      refine bodyPost_ret (results_three Tryz.results14 _ _ rb _ _ _ rfl rfl rfl HFR.out (by kernel_rfl)) rfl ?_
      rw [HRE.out]
      exact ⟨rfl, HFG.out, HFC.out⟩
    · have hzb : ((wd == 0) && (wu == 0)) = false := by
        rw [Bool.and_eq_false_iff]
        by_cases e : wd = 0
        · exact Or.inr (by rw [beq_eq_false_iff_ne]; exact fun e2 => hz ⟨e, e2⟩)
        · exact Or.inl (by rw [beq_eq_false_iff_ne]; exact e)
      have HZN : Hid (¬ (wd = 0 ∧ wu = 0)) := hz
      have HEQ : Hid (∀ W : World, (binOp .eql 37 (.agg #[.int .i64 wd, .int .i64 wu]) (.agg #[.int .i64 0, .int .i64 0])).run Tryz.prog W = .ok (.bool false) W) := fun W => by rw [eql36, hzb]
      clear hzb HEQ
      by_cases e0 : wd = 0
      · have eb0 : (wd == 0) = true := by simpa using e0
        have eb1 : (wu == 0) = false := by rw [beq_eq_false_iff_ne]; exact fun e => hz ⟨e0, e⟩
        clear hz e0
        go_wp2_with fail
        rename_i K hK
        try rw [show ∀ a : Act, a.put none undef = a from fun _ => rfl]
        refine wp_region_mix (fun wq => Blk wq bx #[.int .i64 wd, .int .i64 wu] 37) (fun i => i == 4 || i == 5 || i == 99) 99 (by kernel_rfl) rfl (by kernel_rfl) (by kernel_rfl) (by kernel_rfl) ?_
        refine withFrP (N := 47) rfl ?_
        intro f0 F0 hff
        have ee0 : f0 0 = Value.pointer (some ⟨gb, 0, none⟩) := hff 0
        have ee1 : f0 1 = Value.string ⟨k.toArray⟩ := hff 1
        have ee3 : f0 3 = Value.pointer (some ⟨hb, 0, none⟩) := hff 3
        have ee11 : f0 11 = Value.pointer (some ⟨bx, 0, none⟩) := hff 11
        clear hff
        have HCC : (fun wq => Blk wq bx #[.int .i64 wd, .int .i64 wu] 37) (({ Y with drawn := Y.drawn + 1 } : World)) := HBX.out
        refine lyp F0 rfl HCC rfl (by omega) (wanted_none rfl) (v := Value.pointer (some ⟨gb, 0, none⟩)) (fun wr hwr => by simp only [execOp, (F0.eval 0 (by omega)).trans (show _ = Value.pointer (some ⟨gb, 0, none⟩) from by simp [upd, ee0, ee1, ee3, ee11])]; first | rfl | simp [go_sem]) fun F1 => ?_
        refine lyp F1 rfl HCC rfl (by omega) (wanted_none rfl) (v := Value.agg #[.int .i64 wd, .int .i64 wu]) (fun wr hwr => by simp only [execOp, (F1.eval 11 (by omega)).trans (show _ = Value.pointer (some ⟨bx, 0, none⟩) from by simp [upd, ee0, ee1, ee3, ee11])]; simp [go_sem, show wr.cell? ⟨bx, 0, none⟩ = some (.int .i64 wd) from Blk.cell hwr 0, show wr.cell? ⟨bx, 1, none⟩ = some (.int .i64 wu) from Blk.cell hwr 1]) fun F2 => ?_
        refine lyp F2 rfl HCC rfl (by omega) (wanted_none rfl) (v := Value.pointer (some ⟨hb, 0, none⟩)) (fun wr hwr => by simp only [execOp, (F2.eval 3 (by omega)).trans (show _ = Value.pointer (some ⟨hb, 0, none⟩) from by simp [upd, ee0, ee1, ee3, ee11])]; first | rfl | simp [go_sem]) fun F3 => ?_
        refine lyp F3 rfl HCC rfl (by omega) (wanted_none rfl) (v := Value.string ⟨k.toArray⟩) (fun wr hwr => by simp only [execOp, (F3.eval 1 (by omega)).trans (show _ = Value.string ⟨k.toArray⟩ from by simp [upd, ee0, ee1, ee3, ee11])]; first | rfl | simp [go_sem]) fun F4 => ?_
        refine lcp F4 rfl HCC rfl (by omega) (wanted_none rfl) (g := 41) (args := #[Value.pointer (some ⟨hb, 0, none⟩), Value.string ⟨k.toArray⟩]) (by simp only [execOp, resolve, invoke, List.map_toArray, List.map_cons, List.map_nil, (F4.eval 33 (by omega)).trans (show _ = Value.pointer (some ⟨hb, 0, none⟩) from by simp [upd, ee0, ee1, ee3, ee11]), (F4.eval 34 (by omega)).trans (show _ = Value.string ⟨k.toArray⟩ from by simp [upd, ee0, ee1, ee3, ee11])]; simp [go_sem, Act.eval]) (known_any (N := N) k (({ Y with drawn := Y.drawn + 1 } : World)) (HVY.out.more (show Below Y.heap.size Y (({ Y with drawn := Y.drawn + 1 } : World)) from Below.drew (Below.refl _ _))) hN) ?_
        rintro e9 V ⟨g, rfl, hgl, hgB, hbV0⟩
        have hbV : Below Y.heap.size Y V := (show Below Y.heap.size Y (({ Y with drawn := Y.drawn + 1 } : World)) from Below.drew (Below.refl _ _)).trans hbV0
        refine ⟨_, rfl, fun F5 => ?_⟩
        have HC2 : (fun wq => Blk wq bx #[.int .i64 wd, .int .i64 wu] 37) V := HBX.out.below hbV HBX.out.lt
        refine lcp F5 rfl HC2 rfl (by omega) (wanted_none rfl) (g := 40) (args := #[Value.pointer (some ⟨gb, 0, none⟩), Value.agg #[.int .i64 wd, .int .i64 wu], Value.slice (some ⟨g, 0, none⟩) N N]) (by simp only [execOp, resolve, invoke, List.map_toArray, List.map_cons, List.map_nil, (F5.eval 31 (by omega)).trans (show _ = Value.pointer (some ⟨gb, 0, none⟩) from by simp [upd, ee0, ee1, ee3, ee11]), (F5.eval 32 (by omega)).trans (show _ = Value.agg #[.int .i64 wd, .int .i64 wu] from by simp [upd, ee0, ee1, ee3, ee11]), (F5.eval 35 (by omega)).trans (show _ = Value.slice (some ⟨g, 0, none⟩) N N from by simp [upd, ee0, ee1, ee3, ee11])]; simp [go_sem, Act.eval]) (whom_any wd wu V (HGY.out.more hbV) hme (by simp [knownL]) hgB hN) ?_
        rintro e9 U ⟨rfl, hbU0⟩
        have hbU : Below Y.heap.size Y U := hbV.trans (hbU0.mono hbV.size)
        refine ⟨_, rfl, fun F6 => ?_⟩
        have HC3 : (fun wq => Blk wq bx #[.int .i64 wd, .int .i64 wu] 37) U := HBX.out.below hbU HBX.out.lt
        refine lyp F6 rfl HC3 rfl (by omega) (wanted_none rfl) (v := Value.int .i64 (whomI me (knownL k VL N) N wd wu)) (fun wr hwr => by simp only [execOp, (F6.eval 36 (by omega)).trans (show _ = Value.int .i64 (whomI me (knownL k VL N) N wd wu) from by simp [upd, ee0, ee1, ee3, ee11])]; first | rfl | simp [go_sem]) fun F7 => ?_
        refine ⟨fun _ => HC3, ?_⟩
        refine hK _ _ ?_
        clear F0 F1 F2 F3 F4 F5 F6 F7 ee0 ee1 ee3 ee11 HCC HC2 HC3 hbV0 hbV hbU0 hgB hgl
        simp only [Act.put, List.setIfInBounds_toArray, List.set_cons_succ, List.set_cons_zero]
        have HUW : Hid (Below w.heap.size w U) := HWY.out.trans (hbU.mono HWY.out.size)
        have HGU : Hid (Gs gb mb me N L U) := HGY.out.more hbU
        have HRU : Hid (Blk U rb #[.int .i64 0, .int .i64 0] 37) := HRY.out.below hbU HRY.out.lt
        have HBU : Hid (Blk U bx #[.int .i64 wd, .int .i64 wu] 37) := HBX.out.below hbU HBX.out.lt
        clear hbU b0 b1 g2
        obtain ⟨t, ht⟩ : ∃ t, t = whomI me (knownL k VL N) N wd wu := ⟨_, rfl⟩
        rw [← ht]
        have HT : Hid (t = whomI me (knownL k VL N) N wd wu) := ht
        clear ht
        by_cases hn : t = -1
        · have HRE : Hid (RR = ((0, 0, 0, false), L)) := show RR = ((0, 0, 0, false), L) from by rw [HRR.out]; unfold tickR; rw [if_neg HZN.out, if_pos (HT.out.symm.trans hn)]
          have hnb : (t == -1) = true := by simpa using hn
          have c0 : U.cell? ⟨rb, 0, none⟩ = some (.int .i64 0) := HRU.out.cell 0
          have c1 : U.cell? ⟨rb, 1, none⟩ = some (.int .i64 0) := HRU.out.cell 1
          have f0 : U.frozen? ⟨rb, 0, none⟩ = false := HRU.out.frozen 0
          have f1 : U.frozen? ⟨rb, 1, none⟩ = false := HRU.out.frozen 1
          have hcr : Chg (fun b => b = rb) U ((U.setCell ⟨rb, 0, none⟩ (.int .i64 0)).setCell ⟨rb, 1, none⟩ (.int .i64 0)) := (setCell_chg U rb 0 _).trans (setCell_chg _ rb 1 _) (fun _ _ e => e)
          have HFR : Hid (Blk ((U.setCell ⟨rb, 0, none⟩ (.int .i64 0)).setCell ⟨rb, 1, none⟩ (.int .i64 0)) rb #[.int .i64 0, .int .i64 0] 37) := (HRU.out.set 0 (.int .i64 0)).set 1 (.int .i64 0)
          have HFG : Hid (Gs gb mb me N L ((U.setCell ⟨rb, 0, none⟩ (.int .i64 0)).setCell ⟨rb, 1, none⟩ (.int .i64 0))) := HGU.out.keep hcr (HGU.out.blk.ne_t HRU.out (by decide)) (fun e => HGU.out.map.ne_b HRU.out e.symm)
          have HFC : Hid (Chg (fun b => b = mb) w ((U.setCell ⟨rb, 0, none⟩ (.int .i64 0)).setCell ⟨rb, 1, none⟩ (.int .i64 0))) := (Chg.ofBelow _ HUW.out).trans hcr (fun j hj e => by have := HRL.out; omega)
          clear hcr hn
          go_wp2_with fail
          refine bodyPost_ret (results_three Tryz.results14 _ _ rb _ _ _ rfl rfl rfl HFR.out (by kernel_rfl)) rfl ?_
          rw [HRE.out]
          exact ⟨rfl, HFG.out, HFC.out⟩
        · have HRE : Hid (RR = ((t, wd, wu, true), Gm.rmK k L)) := show RR = ((t, wd, wu, true), Gm.rmK k L) from by rw [HRR.out]; unfold tickR; rw [if_neg HZN.out, if_neg (fun e => hn (HT.out.trans e)), ← HT.out]
          have hnb : (t == -1) = false := by rw [beq_eq_false_iff_ne]; exact hn
          obtain ⟨V, hdel, hm4, hc4, hs4⟩ := HGU.out.map.del k
          have hdel : ∀ ty, (Builtin.delete_ #[70, 9] ty #[.map (some mb), .string ⟨k.toArray⟩]).run Tryz.prog U = .ok (.tuple #[]) V := hdel
          have HGV : Hid (Gs gb mb me N (Gm.rmK k L) V) := HGU.out.set hc4 hm4
          have HRV : Hid (Blk V rb #[.int .i64 0, .int .i64 0] 37) := hc4.blk HRU.out (HGU.out.map.ne_b HRU.out)
          have HBV : Hid (Blk V bx #[.int .i64 wd, .int .i64 wu] 37) := hc4.blk HBU.out (HGU.out.map.ne_b HBU.out)
          have HCV : Hid (Chg (fun b => b = mb) w V) := (Chg.ofBelow _ HUW.out).trans hc4 (fun _ _ e => e)
          have g2 : U.cell? ⟨gb, 2, none⟩ = some (.map (some mb)) := HGU.out.blk.cell 2
          have hbr : bx ≠ rb := fun e => hrl e.symm
          obtain ⟨z0, hz0⟩ : ∃ z0, z0 = Value.int .i64 0 := ⟨_, rfl⟩
          obtain ⟨z1, hz1⟩ : ∃ z1, z1 = Value.int .i64 0 := ⟨_, rfl⟩
          have HRV : Hid (Blk V rb #[z0, z1] 37) := show Blk V rb #[z0, z1] 37 from by rw [hz0, hz1]; exact HRV.out
          clear hm4 hc4 hs4 hn hz0 hz1
          go_wp2_with fail
          rename_i K hK
          try rw [show ∀ a : Act, a.put none undef = a from fun _ => rfl]
          refine wp_region_mix (fun wq => Blk wq bx #[.int .i64 wd, .int .i64 wu] 37) (fun i => i == 3 || i == 99) 99 (by kernel_rfl) rfl (by kernel_rfl) (by kernel_rfl) (by kernel_rfl) ?_
          refine withFrP (N := 47) rfl ?_
          intro f0 F0 hff
          have ee12 : f0 12 = Value.int .i64 t := hff 12
          have ee11 : f0 11 = Value.pointer (some ⟨bx, 0, none⟩) := hff 11
          have ee9 : f0 9 = Value.pointer (some ⟨rb, 0, none⟩) := hff 9
          clear hff
          have HCC : (fun wq => Blk wq bx #[.int .i64 wd, .int .i64 wu] 37) (({ V with drawn := V.drawn + 1 } : World)) := HBV.out
          refine lyp F0 rfl HCC rfl (by omega) (wanted_none rfl) (v := Value.int .i64 t) (fun wr hwr => by simp only [execOp, (F0.eval 12 (by omega)).trans (show _ = Value.int .i64 t from by simp [upd, ee12, ee11, ee9])]; first | rfl | simp [go_sem]) fun F1 => ?_
          refine lyp F1 rfl HCC rfl (by omega) (wanted_none rfl) (v := Value.agg #[.int .i64 wd, .int .i64 wu]) (fun wr hwr => by simp only [execOp, (F1.eval 11 (by omega)).trans (show _ = Value.pointer (some ⟨bx, 0, none⟩) from by simp [upd, ee12, ee11, ee9])]; simp [go_sem, show wr.cell? ⟨bx, 0, none⟩ = some (.int .i64 wd) from Blk.cell hwr 0, show wr.cell? ⟨bx, 1, none⟩ = some (.int .i64 wu) from Blk.cell hwr 1]) fun F2 => ?_
          refine lyp F2 rfl HCC rfl (by omega) (wanted_none rfl) (v := Value.int .i64 t) (fun wr hwr => by simp only [execOp, (F2.eval 45 (by omega)).trans (show _ = Value.int .i64 t from by simp [upd, ee12, ee11, ee9])]; first | rfl | simp [go_sem]) fun F3 => ?_
          have hrB : Blk (({ V with drawn := V.drawn + 1 } : World)) rb #[z0, z1] 37 := HRV.out
          refine lst rfl HCC rfl (wanted_none rfl) (w1 := ((World.setCell (({ V with drawn := V.drawn + 1 } : World)) ⟨rb, 0, none⟩ (.int .i64 wd)).setCell ⟨rb, 1, none⟩ (.int .i64 wu))) (by exact storeR hrB wd wu rfl ((F3.eval 9 (by omega)).trans (show _ = Value.pointer (some ⟨rb, 0, none⟩) from by simp [upd, ee12, ee11, ee9])) ((F3.eval 46 (by omega)).trans (show _ = Value.agg #[.int .i64 wd, .int .i64 wu] from by simp [upd, ee12, ee11, ee9]))) ?_
          have HC2 : (fun wq => Blk wq bx #[.int .i64 wd, .int .i64 wu] 37) ((World.setCell (({ V with drawn := V.drawn + 1 } : World)) ⟨rb, 0, none⟩ (.int .i64 wd)).setCell ⟨rb, 1, none⟩ (.int .i64 wu)) := ((setCell_chg _ rb 1 _).blk ((setCell_chg (({ V with drawn := V.drawn + 1 } : World)) rb 0 (.int .i64 wd)).blk HCC hbr) hbr)
          refine lyp F3 rfl HC2 rfl (by omega) (wanted_none rfl) (v := Value.bool true) (fun wr hwr => by simp only [execOp]; first | rfl | simp [go_sem, Act.eval]) fun F4 => ?_
          refine ⟨fun _ => HC2, ?_⟩
          refine hK _ _ ?_
          clear F0 F1 F2 F3 F4 ee12 ee11 ee9 HCC HC2
          simp only [Act.put, List.setIfInBounds_toArray, List.set_cons_succ, List.set_cons_zero]
          obtain ⟨E, hE⟩ : ∃ E, E = ((World.setCell ({ V with drawn := V.drawn + 1 } : World) ⟨rb, 0, none⟩ (.int .i64 wd)).setCell ⟨rb, 1, none⟩ (.int .i64 wu)) := ⟨_, rfl⟩
          have hcr : Chg (fun b => b = rb) V E := by rw [hE]; exact ((Chg.refl (fun b => b = rb) V).drewN 1).trans ((setCell_chg _ rb 0 _).trans (setCell_chg _ rb 1 _) (fun _ _ e => e)) (fun _ _ e => e)
          have HFR : Hid (Blk E rb #[.int .i64 wd, .int .i64 wu] 37) := show Blk E rb #[.int .i64 wd, .int .i64 wu] 37 from by rw [hE]; exact ((show Blk ({ V with drawn := V.drawn + 1 } : World) rb #[z0, z1] 37 from HRV.out).set 0 (.int .i64 wd)).set 1 (.int .i64 wu)
          have HFG : Hid (Gs gb mb me N (Gm.rmK k L) E) := HGV.out.keep hcr (HGV.out.blk.ne_t HRV.out (by decide)) (fun e => HGV.out.map.ne_b HRV.out e.symm)
          have HFC : Hid (Chg (fun b => b = mb) w E) := HCV.out.trans hcr (fun j hj e => by have := HRL.out; omega)
          rw [← hE]
          clear hE hcr
          go_wp2_with fail
          refine bodyPost_ret (results_three Tryz.results14 _ _ rb _ _ _ rfl rfl rfl HFR.out (by kernel_rfl)) rfl ?_
          rw [HRE.out]
          exact ⟨rfl, HFG.out, HFC.out⟩
      · have eb0 : (wd == 0) = false := by rw [beq_eq_false_iff_ne]; exact e0
        clear hz e0
        go_wp2_with fail
        rename_i K hK
        try rw [show ∀ a : Act, a.put none undef = a from fun _ => rfl]
        refine wp_region_mix (fun wq => Blk wq bx #[.int .i64 wd, .int .i64 wu] 37) (fun i => i == 4 || i == 5 || i == 99) 99 (by kernel_rfl) rfl (by kernel_rfl) (by kernel_rfl) (by kernel_rfl) ?_
        refine withFrP (N := 47) rfl ?_
        intro f0 F0 hff
        have ee0 : f0 0 = Value.pointer (some ⟨gb, 0, none⟩) := hff 0
        have ee1 : f0 1 = Value.string ⟨k.toArray⟩ := hff 1
        have ee3 : f0 3 = Value.pointer (some ⟨hb, 0, none⟩) := hff 3
        have ee11 : f0 11 = Value.pointer (some ⟨bx, 0, none⟩) := hff 11
        clear hff
        have HCC : (fun wq => Blk wq bx #[.int .i64 wd, .int .i64 wu] 37) (({ Y with drawn := Y.drawn + 1 } : World)) := HBX.out
        refine lyp F0 rfl HCC rfl (by omega) (wanted_none rfl) (v := Value.pointer (some ⟨gb, 0, none⟩)) (fun wr hwr => by simp only [execOp, (F0.eval 0 (by omega)).trans (show _ = Value.pointer (some ⟨gb, 0, none⟩) from by simp [upd, ee0, ee1, ee3, ee11])]; first | rfl | simp [go_sem]) fun F1 => ?_
        refine lyp F1 rfl HCC rfl (by omega) (wanted_none rfl) (v := Value.agg #[.int .i64 wd, .int .i64 wu]) (fun wr hwr => by simp only [execOp, (F1.eval 11 (by omega)).trans (show _ = Value.pointer (some ⟨bx, 0, none⟩) from by simp [upd, ee0, ee1, ee3, ee11])]; simp [go_sem, show wr.cell? ⟨bx, 0, none⟩ = some (.int .i64 wd) from Blk.cell hwr 0, show wr.cell? ⟨bx, 1, none⟩ = some (.int .i64 wu) from Blk.cell hwr 1]) fun F2 => ?_
        refine lyp F2 rfl HCC rfl (by omega) (wanted_none rfl) (v := Value.pointer (some ⟨hb, 0, none⟩)) (fun wr hwr => by simp only [execOp, (F2.eval 3 (by omega)).trans (show _ = Value.pointer (some ⟨hb, 0, none⟩) from by simp [upd, ee0, ee1, ee3, ee11])]; first | rfl | simp [go_sem]) fun F3 => ?_
        refine lyp F3 rfl HCC rfl (by omega) (wanted_none rfl) (v := Value.string ⟨k.toArray⟩) (fun wr hwr => by simp only [execOp, (F3.eval 1 (by omega)).trans (show _ = Value.string ⟨k.toArray⟩ from by simp [upd, ee0, ee1, ee3, ee11])]; first | rfl | simp [go_sem]) fun F4 => ?_
        refine lcp F4 rfl HCC rfl (by omega) (wanted_none rfl) (g := 41) (args := #[Value.pointer (some ⟨hb, 0, none⟩), Value.string ⟨k.toArray⟩]) (by simp only [execOp, resolve, invoke, List.map_toArray, List.map_cons, List.map_nil, (F4.eval 33 (by omega)).trans (show _ = Value.pointer (some ⟨hb, 0, none⟩) from by simp [upd, ee0, ee1, ee3, ee11]), (F4.eval 34 (by omega)).trans (show _ = Value.string ⟨k.toArray⟩ from by simp [upd, ee0, ee1, ee3, ee11])]; simp [go_sem, Act.eval]) (known_any (N := N) k (({ Y with drawn := Y.drawn + 1 } : World)) (HVY.out.more (show Below Y.heap.size Y (({ Y with drawn := Y.drawn + 1 } : World)) from Below.drew (Below.refl _ _))) hN) ?_
        rintro e9 V ⟨g, rfl, hgl, hgB, hbV0⟩
        have hbV : Below Y.heap.size Y V := (show Below Y.heap.size Y (({ Y with drawn := Y.drawn + 1 } : World)) from Below.drew (Below.refl _ _)).trans hbV0
        refine ⟨_, rfl, fun F5 => ?_⟩
        have HC2 : (fun wq => Blk wq bx #[.int .i64 wd, .int .i64 wu] 37) V := HBX.out.below hbV HBX.out.lt
        refine lcp F5 rfl HC2 rfl (by omega) (wanted_none rfl) (g := 40) (args := #[Value.pointer (some ⟨gb, 0, none⟩), Value.agg #[.int .i64 wd, .int .i64 wu], Value.slice (some ⟨g, 0, none⟩) N N]) (by simp only [execOp, resolve, invoke, List.map_toArray, List.map_cons, List.map_nil, (F5.eval 31 (by omega)).trans (show _ = Value.pointer (some ⟨gb, 0, none⟩) from by simp [upd, ee0, ee1, ee3, ee11]), (F5.eval 32 (by omega)).trans (show _ = Value.agg #[.int .i64 wd, .int .i64 wu] from by simp [upd, ee0, ee1, ee3, ee11]), (F5.eval 35 (by omega)).trans (show _ = Value.slice (some ⟨g, 0, none⟩) N N from by simp [upd, ee0, ee1, ee3, ee11])]; simp [go_sem, Act.eval]) (whom_any wd wu V (HGY.out.more hbV) hme (by simp [knownL]) hgB hN) ?_
        rintro e9 U ⟨rfl, hbU0⟩
        have hbU : Below Y.heap.size Y U := hbV.trans (hbU0.mono hbV.size)
        refine ⟨_, rfl, fun F6 => ?_⟩
        have HC3 : (fun wq => Blk wq bx #[.int .i64 wd, .int .i64 wu] 37) U := HBX.out.below hbU HBX.out.lt
        refine lyp F6 rfl HC3 rfl (by omega) (wanted_none rfl) (v := Value.int .i64 (whomI me (knownL k VL N) N wd wu)) (fun wr hwr => by simp only [execOp, (F6.eval 36 (by omega)).trans (show _ = Value.int .i64 (whomI me (knownL k VL N) N wd wu) from by simp [upd, ee0, ee1, ee3, ee11])]; first | rfl | simp [go_sem]) fun F7 => ?_
        refine ⟨fun _ => HC3, ?_⟩
        refine hK _ _ ?_
        clear F0 F1 F2 F3 F4 F5 F6 F7 ee0 ee1 ee3 ee11 HCC HC2 HC3 hbV0 hbV hbU0 hgB hgl
        simp only [Act.put, List.setIfInBounds_toArray, List.set_cons_succ, List.set_cons_zero]
        have HUW : Hid (Below w.heap.size w U) := HWY.out.trans (hbU.mono HWY.out.size)
        have HGU : Hid (Gs gb mb me N L U) := HGY.out.more hbU
        have HRU : Hid (Blk U rb #[.int .i64 0, .int .i64 0] 37) := HRY.out.below hbU HRY.out.lt
        have HBU : Hid (Blk U bx #[.int .i64 wd, .int .i64 wu] 37) := HBX.out.below hbU HBX.out.lt
        clear hbU b0 b1 g2
        obtain ⟨t, ht⟩ : ∃ t, t = whomI me (knownL k VL N) N wd wu := ⟨_, rfl⟩
        rw [← ht]
        have HT : Hid (t = whomI me (knownL k VL N) N wd wu) := ht
        clear ht
        by_cases hn : t = -1
        · have HRE : Hid (RR = ((0, 0, 0, false), L)) := show RR = ((0, 0, 0, false), L) from by rw [HRR.out]; unfold tickR; rw [if_neg HZN.out, if_pos (HT.out.symm.trans hn)]
          have hnb : (t == -1) = true := by simpa using hn
          have c0 : U.cell? ⟨rb, 0, none⟩ = some (.int .i64 0) := HRU.out.cell 0
          have c1 : U.cell? ⟨rb, 1, none⟩ = some (.int .i64 0) := HRU.out.cell 1
          have f0 : U.frozen? ⟨rb, 0, none⟩ = false := HRU.out.frozen 0
          have f1 : U.frozen? ⟨rb, 1, none⟩ = false := HRU.out.frozen 1
          have hcr : Chg (fun b => b = rb) U ((U.setCell ⟨rb, 0, none⟩ (.int .i64 0)).setCell ⟨rb, 1, none⟩ (.int .i64 0)) := (setCell_chg U rb 0 _).trans (setCell_chg _ rb 1 _) (fun _ _ e => e)
          have HFR : Hid (Blk ((U.setCell ⟨rb, 0, none⟩ (.int .i64 0)).setCell ⟨rb, 1, none⟩ (.int .i64 0)) rb #[.int .i64 0, .int .i64 0] 37) := (HRU.out.set 0 (.int .i64 0)).set 1 (.int .i64 0)
          have HFG : Hid (Gs gb mb me N L ((U.setCell ⟨rb, 0, none⟩ (.int .i64 0)).setCell ⟨rb, 1, none⟩ (.int .i64 0))) := HGU.out.keep hcr (HGU.out.blk.ne_t HRU.out (by decide)) (fun e => HGU.out.map.ne_b HRU.out e.symm)
          have HFC : Hid (Chg (fun b => b = mb) w ((U.setCell ⟨rb, 0, none⟩ (.int .i64 0)).setCell ⟨rb, 1, none⟩ (.int .i64 0))) := (Chg.ofBelow _ HUW.out).trans hcr (fun j hj e => by have := HRL.out; omega)
          clear hcr hn
          go_wp2_with fail
          refine bodyPost_ret (results_three Tryz.results14 _ _ rb _ _ _ rfl rfl rfl HFR.out (by kernel_rfl)) rfl ?_
          rw [HRE.out]
          exact ⟨rfl, HFG.out, HFC.out⟩
        · have HRE : Hid (RR = ((t, wd, wu, true), Gm.rmK k L)) := show RR = ((t, wd, wu, true), Gm.rmK k L) from by rw [HRR.out]; unfold tickR; rw [if_neg HZN.out, if_neg (fun e => hn (HT.out.trans e)), ← HT.out]
          have hnb : (t == -1) = false := by rw [beq_eq_false_iff_ne]; exact hn
          obtain ⟨V, hdel, hm4, hc4, hs4⟩ := HGU.out.map.del k
          have hdel : ∀ ty, (Builtin.delete_ #[70, 9] ty #[.map (some mb), .string ⟨k.toArray⟩]).run Tryz.prog U = .ok (.tuple #[]) V := hdel
          have HGV : Hid (Gs gb mb me N (Gm.rmK k L) V) := HGU.out.set hc4 hm4
          have HRV : Hid (Blk V rb #[.int .i64 0, .int .i64 0] 37) := hc4.blk HRU.out (HGU.out.map.ne_b HRU.out)
          have HBV : Hid (Blk V bx #[.int .i64 wd, .int .i64 wu] 37) := hc4.blk HBU.out (HGU.out.map.ne_b HBU.out)
          have HCV : Hid (Chg (fun b => b = mb) w V) := (Chg.ofBelow _ HUW.out).trans hc4 (fun _ _ e => e)
          have g2 : U.cell? ⟨gb, 2, none⟩ = some (.map (some mb)) := HGU.out.blk.cell 2
          have hbr : bx ≠ rb := fun e => hrl e.symm
          obtain ⟨z0, hz0⟩ : ∃ z0, z0 = Value.int .i64 0 := ⟨_, rfl⟩
          obtain ⟨z1, hz1⟩ : ∃ z1, z1 = Value.int .i64 0 := ⟨_, rfl⟩
          have HRV : Hid (Blk V rb #[z0, z1] 37) := show Blk V rb #[z0, z1] 37 from by rw [hz0, hz1]; exact HRV.out
          clear hm4 hc4 hs4 hn hz0 hz1
          go_wp2_with fail
          rename_i K hK
          try rw [show ∀ a : Act, a.put none undef = a from fun _ => rfl]
          refine wp_region_mix (fun wq => Blk wq bx #[.int .i64 wd, .int .i64 wu] 37) (fun i => i == 3 || i == 99) 99 (by kernel_rfl) rfl (by kernel_rfl) (by kernel_rfl) (by kernel_rfl) ?_
          refine withFrP (N := 47) rfl ?_
          intro f0 F0 hff
          have ee12 : f0 12 = Value.int .i64 t := hff 12
          have ee11 : f0 11 = Value.pointer (some ⟨bx, 0, none⟩) := hff 11
          have ee9 : f0 9 = Value.pointer (some ⟨rb, 0, none⟩) := hff 9
          clear hff
          have HCC : (fun wq => Blk wq bx #[.int .i64 wd, .int .i64 wu] 37) (({ V with drawn := V.drawn + 1 } : World)) := HBV.out
          refine lyp F0 rfl HCC rfl (by omega) (wanted_none rfl) (v := Value.int .i64 t) (fun wr hwr => by simp only [execOp, (F0.eval 12 (by omega)).trans (show _ = Value.int .i64 t from by simp [upd, ee12, ee11, ee9])]; first | rfl | simp [go_sem]) fun F1 => ?_
          refine lyp F1 rfl HCC rfl (by omega) (wanted_none rfl) (v := Value.agg #[.int .i64 wd, .int .i64 wu]) (fun wr hwr => by simp only [execOp, (F1.eval 11 (by omega)).trans (show _ = Value.pointer (some ⟨bx, 0, none⟩) from by simp [upd, ee12, ee11, ee9])]; simp [go_sem, show wr.cell? ⟨bx, 0, none⟩ = some (.int .i64 wd) from Blk.cell hwr 0, show wr.cell? ⟨bx, 1, none⟩ = some (.int .i64 wu) from Blk.cell hwr 1]) fun F2 => ?_
          refine lyp F2 rfl HCC rfl (by omega) (wanted_none rfl) (v := Value.int .i64 t) (fun wr hwr => by simp only [execOp, (F2.eval 45 (by omega)).trans (show _ = Value.int .i64 t from by simp [upd, ee12, ee11, ee9])]; first | rfl | simp [go_sem]) fun F3 => ?_
          have hrB : Blk (({ V with drawn := V.drawn + 1 } : World)) rb #[z0, z1] 37 := HRV.out
          refine lst rfl HCC rfl (wanted_none rfl) (w1 := ((World.setCell (({ V with drawn := V.drawn + 1 } : World)) ⟨rb, 0, none⟩ (.int .i64 wd)).setCell ⟨rb, 1, none⟩ (.int .i64 wu))) (by exact storeR hrB wd wu rfl ((F3.eval 9 (by omega)).trans (show _ = Value.pointer (some ⟨rb, 0, none⟩) from by simp [upd, ee12, ee11, ee9])) ((F3.eval 46 (by omega)).trans (show _ = Value.agg #[.int .i64 wd, .int .i64 wu] from by simp [upd, ee12, ee11, ee9]))) ?_
          have HC2 : (fun wq => Blk wq bx #[.int .i64 wd, .int .i64 wu] 37) ((World.setCell (({ V with drawn := V.drawn + 1 } : World)) ⟨rb, 0, none⟩ (.int .i64 wd)).setCell ⟨rb, 1, none⟩ (.int .i64 wu)) := ((setCell_chg _ rb 1 _).blk ((setCell_chg (({ V with drawn := V.drawn + 1 } : World)) rb 0 (.int .i64 wd)).blk HCC hbr) hbr)
          refine lyp F3 rfl HC2 rfl (by omega) (wanted_none rfl) (v := Value.bool true) (fun wr hwr => by simp only [execOp]; first | rfl | simp [go_sem, Act.eval]) fun F4 => ?_
          refine ⟨fun _ => HC2, ?_⟩
          refine hK _ _ ?_
          clear F0 F1 F2 F3 F4 ee12 ee11 ee9 HCC HC2
          simp only [Act.put, List.setIfInBounds_toArray, List.set_cons_succ, List.set_cons_zero]
          obtain ⟨E, hE⟩ : ∃ E, E = ((World.setCell ({ V with drawn := V.drawn + 1 } : World) ⟨rb, 0, none⟩ (.int .i64 wd)).setCell ⟨rb, 1, none⟩ (.int .i64 wu)) := ⟨_, rfl⟩
          have hcr : Chg (fun b => b = rb) V E := by rw [hE]; exact ((Chg.refl (fun b => b = rb) V).drewN 1).trans ((setCell_chg _ rb 0 _).trans (setCell_chg _ rb 1 _) (fun _ _ e => e)) (fun _ _ e => e)
          have HFR : Hid (Blk E rb #[.int .i64 wd, .int .i64 wu] 37) := show Blk E rb #[.int .i64 wd, .int .i64 wu] 37 from by rw [hE]; exact ((show Blk ({ V with drawn := V.drawn + 1 } : World) rb #[z0, z1] 37 from HRV.out).set 0 (.int .i64 wd)).set 1 (.int .i64 wu)
          have HFG : Hid (Gs gb mb me N (Gm.rmK k L) E) := HGV.out.keep hcr (HGV.out.blk.ne_t HRV.out (by decide)) (fun e => HGV.out.map.ne_b HRV.out e.symm)
          have HFC : Hid (Chg (fun b => b = mb) w E) := HCV.out.trans hcr (fun j hj e => by have := HRL.out; omega)
          rw [← hE]
          clear hE hcr
          go_wp2_with fail
          refine bodyPost_ret (results_three Tryz.results14 _ _ rb _ _ _ rfl rfl rfl HFR.out (by kernel_rfl)) rfl ?_
          rw [HRE.out]
          exact ⟨rfl, HFG.out, HFC.out⟩
  refine wp_region_plan (fun wq => Below X.heap.size X wq) (fun i => i == 7 || i == 8 || i == 9 || i == 10) 10 (.one 0 (.one 1 (.one 2 (.one 3 (.one 4 (.one 5 (.one 6 (.two 7 9 (.two 8 9 (.one 9 (.one 10 (.done))) (.one 8 (.one 10 (.done)))) (.one 7 (.one 8 (.one 10 (.done)))))))))))) (by kernel_rfl) rfl (by kernel_rfl) (by kernel_rfl) rfl (by kernel_rfl) ?_
  refine withFrG (N := 47) rfl ?_
  intro a0 f0 F0 hff
  have hs0 : f0 0 = Value.pointer (some ⟨gb, 0, none⟩) := hff 0
  have hs1 : f0 1 = Value.string ⟨k.toArray⟩ := hff 1
  have hs2 : f0 2 = Value.pointer (some ⟨lb, 0, none⟩) := hff 2
  have hs3 : f0 3 = Value.pointer (some ⟨hb, 0, none⟩) := hff 3
  have hs9 : f0 9 = Value.pointer (some ⟨rb, 0, none⟩) := hff 9
  have hs8 : f0 8 = Value.int .i64 0 := hff 8
  have hs10 : f0 10 = Value.bool false := hff 10
  clear hff
  have hC0 : (fun wq => Below X.heap.size X wq) ({ X with drawn := X.drawn + 1 } : World) := Below.drew (Below.refl X.heap.size X)
  have rg2 : ∀ wr, Below X.heap.size X wr → wr.cell? ⟨gb, 2, none⟩ = some (.map (some mb)) := fun wr hw => (HGX.out.more hw).blk.cell 2
  have rlk : ∀ wr, Below X.heap.size X wr → (Instr.lookup 70 (.map (some mb)) (.string ⟨k.toArray⟩) false).run Tryz.prog wr = .ok (.agg #[.int .i64 l1, .int .i64 l2]) wr := fun wr hw => by have := (HGX.out.more hw).look k; rw [HL1.out, HL2.out] at this; exact this
  refine py (k := 0) rfl F0 rfl hC0 rfl (by omega) (wanted_none rfl) (v := Value.pointer (some ⟨gb, 0, none⟩)) (fun wr hwr => by simp only [execOp, (F0.eval 0 (by omega)).trans (show _ = Value.pointer (some ⟨gb, 0, none⟩) from by simp [upd, hs0, hs1, hs2, hs3, hs9, hs8, hs10])]; first | rfl | simp [go_sem]) fun a1 F1 => ?_
  refine py (k := 1) rfl F1 rfl hC0 rfl (by omega) (wanted_none rfl) (v := Value.pointer (some ⟨gb, 0, none⟩)) (fun wr hwr => by simp only [execOp, (F1.eval 13 (by omega)).trans (show _ = Value.pointer (some ⟨gb, 0, none⟩) from by simp [upd, hs0, hs1, hs2, hs3, hs9, hs8, hs10])]; simp [go_sem]) fun a2 F2 => ?_
  refine py (k := 2) rfl F2 rfl hC0 rfl (by omega) (wanted_none rfl) (v := Value.pointer (some ⟨gb, 2, none⟩)) (fun wr hwr => by simp only [execOp, (F2.eval 14 (by omega)).trans (show _ = Value.pointer (some ⟨gb, 0, none⟩) from by simp [upd, hs0, hs1, hs2, hs3, hs9, hs8, hs10])]; simp [go_sem]) fun a3 F3 => ?_
  refine py (k := 3) rfl F3 rfl hC0 rfl (by omega) (wanted_none rfl) (v := Value.map (some mb)) (fun wr hwr => by simp only [execOp, (F3.eval 15 (by omega)).trans (show _ = Value.pointer (some ⟨gb, 2, none⟩) from by simp [upd, hs0, hs1, hs2, hs3, hs9, hs8, hs10])]; simp [go_sem, rg2 wr hwr]) fun a4 F4 => ?_
  refine py (k := 4) rfl F4 rfl hC0 rfl (by omega) (wanted_none rfl) (v := Value.string ⟨k.toArray⟩) (fun wr hwr => by simp only [execOp, (F4.eval 1 (by omega)).trans (show _ = Value.string ⟨k.toArray⟩ from by simp [upd, hs0, hs1, hs2, hs3, hs9, hs8, hs10])]; first | rfl | simp [go_sem]) fun a5 F5 => ?_
  refine py (k := 5) rfl F5 rfl hC0 rfl (by omega) (wanted_none rfl) (v := Value.agg #[.int .i64 l1, .int .i64 l2]) (fun wr hwr => by simp only [execOp, (F5.eval 16 (by omega)).trans (show _ = Value.map (some mb) from by simp [upd, hs0, hs1, hs2, hs3, hs9, hs8, hs10]), (F5.eval 17 (by omega)).trans (show _ = Value.string ⟨k.toArray⟩ from by simp [upd, hs0, hs1, hs2, hs3, hs9, hs8, hs10])]; simp only [Sem.run_bind, Sem.run_pure, Result.andThen_ok, rlk wr hwr]; try rfl) fun a6 F6 => ?_
  refine py (k := 6) rfl F6 rfl hC0 rfl (by omega) (wanted_none rfl) (v := Value.pointer (some ⟨lb, 0, none⟩)) (fun wr hwr => by simp only [execOp, (F6.eval 2 (by omega)).trans (show _ = Value.pointer (some ⟨lb, 0, none⟩) from by simp [upd, hs0, hs1, hs2, hs3, hs9, hs8, hs10])]; first | rfl | simp [go_sem]) fun a7 F7 => ?_
  refine pfork hC0 ?_ ?_
  · refine pc' (k := 7) rfl F7 rfl rfl (by omega) (wanted_none rfl) (g := 11) (args := #[.pointer (some ⟨lb, 0, none⟩)]) (by simp only [execOp, resolve, invoke, List.map_toArray, List.map_cons, List.map_nil, (F7.eval 19 (by omega)).trans (show _ = Value.pointer (some ⟨lb, 0, none⟩) from by simp [upd, hs0, hs1, hs2, hs3, hs9, hs8, hs10])]; simp [go_sem, Act.eval]) (HRT.out ({ X with drawn := X.drawn + 1 } : World) hC0) ?_
    rintro e9 V1 ⟨rfl, hb9⟩
    refine ⟨_, rfl, fun aA1 FA1 => ?_⟩
    have hCa : (fun wq => Below X.heap.size X wq) V1 := hC0.trans (hb9.mono hC0.size)
    refine pfork hCa ?_ ?_
    · refine pc' (k := 8) rfl FA1 rfl rfl (by omega) (wanted_none rfl) (g := 39) (args := #[.agg #[.int .i64 l1, .int .i64 l2], .agg #[.int .i64 s.d, .int .i64 s.u]]) (by simp only [execOp, resolve, invoke, List.map_toArray, List.map_cons, List.map_nil, (FA1.eval 18 (by omega)).trans (show _ = Value.agg #[.int .i64 l1, .int .i64 l2] from by simp [upd, hs0, hs1, hs2, hs3, hs9, hs8, hs10]), (FA1.eval 20 (by omega)).trans (show _ = Value.agg #[.int .i64 s.d, .int .i64 s.u] from by simp [upd, hs0, hs1, hs2, hs3, hs9, hs8, hs10])]; simp [go_sem, Act.eval]) (HBY.out V1) ?_
      rintro e9 V2 ⟨rfl, hb8⟩
      refine ⟨_, rfl, fun aB1 FB1 => ?_⟩
      have hCb : (fun wq => Below X.heap.size X wq) V2 := hCa.trans (hb8.mono hCa.size)
      refine pe (k := 9) rfl FB1 rfl hCb rfl (by omega) (wanted_none rfl) (v := Value.pointer (some ⟨V2.heap.size, 0, none⟩)) (w1 := V2.alloc (.cells #[.int .i64 0, .int .i64 0] 37)) (by simp only [execOp]; simp [go_sem, zero36]) fun aB2 FB2 => ?_
      have hBz : Blk (V2.alloc (.cells #[.int .i64 0, .int .i64 0] 37)) V2.heap.size #[.int .i64 0, .int .i64 0] 37 := heap_alloc_new V2 _
      have hCz : (fun wq => Below X.heap.size X wq) (V2.alloc (.cells #[.int .i64 0, .int .i64 0] 37)) := hCb.alloc hCb.size _
      have hlz : X.heap.size ≤ V2.heap.size := hCb.size
      obtain ⟨Y, hY⟩ : ∃ Y, Y = ((World.setCell (V2.alloc (.cells #[.int .i64 0, .int .i64 0] 37)) ⟨V2.heap.size, 0, none⟩ (.int .i64 wd)).setCell ⟨V2.heap.size, 1, none⟩ (.int .i64 wu)) := ⟨_, rfl⟩
      have hBy : Blk Y V2.heap.size #[.int .i64 wd, .int .i64 wu] 37 := by rw [hY]; exact (Blk.set hBz 0 (.int .i64 wd)).set 1 (.int .i64 wu)
      have hCy : (fun wq => Below X.heap.size X wq) Y := by rw [hY]; exact set2_below hCz hlz _ _
      refine ps (k := 10) rfl rfl hCz rfl (wanted_none rfl) (w1 := Y) (by rw [hY]; exact storeR hBz wd wu rfl ((FB2.eval 11 (by omega)).trans (show _ = Value.pointer (some ⟨V2.heap.size, 0, none⟩) from by simp [upd, hs0, hs1, hs2, hs3, hs9, hs8, hs10])) ((FB2.eval 21 (by omega)).trans (show _ = Value.agg #[.int .i64 wd, .int .i64 wu] from by simp [upd, hs0, hs1, hs2, hs3, hs9, hs8, hs10]))) ?_
      refine pdone (fun _ => hCy) ?_
      exact hrest _ _ Y V2.heap.size FB2 (show _ = Value.pointer (some ⟨gb, 0, none⟩) from by simp [upd, hs0, hs1, hs2, hs3, hs9, hs8, hs10]) (show _ = Value.string ⟨k.toArray⟩ from by simp [upd, hs0, hs1, hs2, hs3, hs9, hs8, hs10]) (show _ = Value.pointer (some ⟨lb, 0, none⟩) from by simp [upd, hs0, hs1, hs2, hs3, hs9, hs8, hs10]) (show _ = Value.pointer (some ⟨hb, 0, none⟩) from by simp [upd, hs0, hs1, hs2, hs3, hs9, hs8, hs10]) (show _ = Value.int .i64 0 from by simp [upd, hs0, hs1, hs2, hs3, hs9, hs8, hs10]) (show _ = Value.pointer (some ⟨rb, 0, none⟩) from by simp [upd, hs0, hs1, hs2, hs3, hs9, hs8, hs10]) (show _ = Value.bool false from by simp [upd, hs0, hs1, hs2, hs3, hs9, hs8, hs10]) (show _ = Value.pointer (some ⟨V2.heap.size, 0, none⟩) from by simp [upd, hs0, hs1, hs2, hs3, hs9, hs8, hs10]) hBy hlz hCy
    · refine pe' (k := 9) rfl FA1 rfl rfl (by omega) (wanted_none rfl) (v := Value.pointer (some ⟨V1.heap.size, 0, none⟩)) (w1 := V1.alloc (.cells #[.int .i64 0, .int .i64 0] 37)) (by simp only [execOp]; simp [go_sem, zero36]) fun aC1 FC1 => ?_
      have hBz : Blk (V1.alloc (.cells #[.int .i64 0, .int .i64 0] 37)) V1.heap.size #[.int .i64 0, .int .i64 0] 37 := heap_alloc_new V1 _
      have hCz : (fun wq => Below X.heap.size X wq) (V1.alloc (.cells #[.int .i64 0, .int .i64 0] 37)) := hCa.alloc hCa.size _
      have hlz : X.heap.size ≤ V1.heap.size := hCa.size
      refine pc (k := 8) rfl FC1 rfl hCz rfl (by omega) (wanted_none rfl) (g := 39) (args := #[.agg #[.int .i64 l1, .int .i64 l2], .agg #[.int .i64 s.d, .int .i64 s.u]]) (by simp only [execOp, resolve, invoke, List.map_toArray, List.map_cons, List.map_nil, (FC1.eval 18 (by omega)).trans (show _ = Value.agg #[.int .i64 l1, .int .i64 l2] from by simp [upd, hs0, hs1, hs2, hs3, hs9, hs8, hs10]), (FC1.eval 20 (by omega)).trans (show _ = Value.agg #[.int .i64 s.d, .int .i64 s.u] from by simp [upd, hs0, hs1, hs2, hs3, hs9, hs8, hs10])]; simp [go_sem, Act.eval]) (HBY.out (V1.alloc (.cells #[.int .i64 0, .int .i64 0] 37))) ?_
      rintro e9 V2 ⟨rfl, hb8⟩
      refine ⟨_, rfl, fun aC2 FC2 => ?_⟩
      have hCb : (fun wq => Below X.heap.size X wq) V2 := hCz.trans (hb8.mono hCz.size)
      have hBb := Blk.below hBz hb8 (Blk.lt hBz)
      obtain ⟨Y, hY⟩ : ∃ Y, Y = ((World.setCell V2 ⟨V1.heap.size, 0, none⟩ (.int .i64 wd)).setCell ⟨V1.heap.size, 1, none⟩ (.int .i64 wu)) := ⟨_, rfl⟩
      have hBy : Blk Y V1.heap.size #[.int .i64 wd, .int .i64 wu] 37 := by rw [hY]; exact (Blk.set hBb 0 (.int .i64 wd)).set 1 (.int .i64 wu)
      have hCy : (fun wq => Below X.heap.size X wq) Y := by rw [hY]; exact set2_below hCb hlz _ _
      refine ps (k := 10) rfl rfl hCb rfl (wanted_none rfl) (w1 := Y) (by rw [hY]; exact storeR hBb wd wu rfl ((FC2.eval 11 (by omega)).trans (show _ = Value.pointer (some ⟨V1.heap.size, 0, none⟩) from by simp [upd, hs0, hs1, hs2, hs3, hs9, hs8, hs10])) ((FC2.eval 21 (by omega)).trans (show _ = Value.agg #[.int .i64 wd, .int .i64 wu] from by simp [upd, hs0, hs1, hs2, hs3, hs9, hs8, hs10]))) ?_
      refine pdone (fun _ => hCy) ?_
      exact hrest _ _ Y V1.heap.size FC2 (show _ = Value.pointer (some ⟨gb, 0, none⟩) from by simp [upd, hs0, hs1, hs2, hs3, hs9, hs8, hs10]) (show _ = Value.string ⟨k.toArray⟩ from by simp [upd, hs0, hs1, hs2, hs3, hs9, hs8, hs10]) (show _ = Value.pointer (some ⟨lb, 0, none⟩) from by simp [upd, hs0, hs1, hs2, hs3, hs9, hs8, hs10]) (show _ = Value.pointer (some ⟨hb, 0, none⟩) from by simp [upd, hs0, hs1, hs2, hs3, hs9, hs8, hs10]) (show _ = Value.int .i64 0 from by simp [upd, hs0, hs1, hs2, hs3, hs9, hs8, hs10]) (show _ = Value.pointer (some ⟨rb, 0, none⟩) from by simp [upd, hs0, hs1, hs2, hs3, hs9, hs8, hs10]) (show _ = Value.bool false from by simp [upd, hs0, hs1, hs2, hs3, hs9, hs8, hs10]) (show _ = Value.pointer (some ⟨V1.heap.size, 0, none⟩) from by simp [upd, hs0, hs1, hs2, hs3, hs9, hs8, hs10]) hBy hlz hCy
  · refine pe' (k := 9) rfl F7 rfl rfl (by omega) (wanted_none rfl) (v := Value.pointer (some ⟨({ X with drawn := X.drawn + 1 } : World).heap.size, 0, none⟩)) (w1 := ({ X with drawn := X.drawn + 1 } : World).alloc (.cells #[.int .i64 0, .int .i64 0] 37)) (by simp only [execOp]; simp [go_sem, zero36]) fun aD1 FD1 => ?_
    have hBz : Blk (({ X with drawn := X.drawn + 1 } : World).alloc (.cells #[.int .i64 0, .int .i64 0] 37)) ({ X with drawn := X.drawn + 1 } : World).heap.size #[.int .i64 0, .int .i64 0] 37 := heap_alloc_new ({ X with drawn := X.drawn + 1 } : World) _
    have hCz : (fun wq => Below X.heap.size X wq) (({ X with drawn := X.drawn + 1 } : World).alloc (.cells #[.int .i64 0, .int .i64 0] 37)) := hC0.alloc hC0.size _
    have hlz : X.heap.size ≤ ({ X with drawn := X.drawn + 1 } : World).heap.size := hC0.size
    refine pc (k := 7) rfl FD1 rfl hCz rfl (by omega) (wanted_none rfl) (g := 11) (args := #[.pointer (some ⟨lb, 0, none⟩)]) (by simp only [execOp, resolve, invoke, List.map_toArray, List.map_cons, List.map_nil, (FD1.eval 19 (by omega)).trans (show _ = Value.pointer (some ⟨lb, 0, none⟩) from by simp [upd, hs0, hs1, hs2, hs3, hs9, hs8, hs10])]; simp [go_sem, Act.eval]) (HRT.out (({ X with drawn := X.drawn + 1 } : World).alloc (.cells #[.int .i64 0, .int .i64 0] 37)) hCz) ?_
    rintro e9 V1 ⟨rfl, hb9⟩
    refine ⟨_, rfl, fun aD2 FD2 => ?_⟩
    have hCa : (fun wq => Below X.heap.size X wq) V1 := hCz.trans (hb9.mono hCz.size)
    have hBa := Blk.below hBz hb9 (Blk.lt hBz)
    refine pc (k := 8) rfl FD2 rfl hCa rfl (by omega) (wanted_none rfl) (g := 39) (args := #[.agg #[.int .i64 l1, .int .i64 l2], .agg #[.int .i64 s.d, .int .i64 s.u]]) (by simp only [execOp, resolve, invoke, List.map_toArray, List.map_cons, List.map_nil, (FD2.eval 18 (by omega)).trans (show _ = Value.agg #[.int .i64 l1, .int .i64 l2] from by simp [upd, hs0, hs1, hs2, hs3, hs9, hs8, hs10]), (FD2.eval 20 (by omega)).trans (show _ = Value.agg #[.int .i64 s.d, .int .i64 s.u] from by simp [upd, hs0, hs1, hs2, hs3, hs9, hs8, hs10])]; simp [go_sem, Act.eval]) (HBY.out V1) ?_
    rintro e9 V2 ⟨rfl, hb8⟩
    refine ⟨_, rfl, fun aD3 FD3 => ?_⟩
    have hCb : (fun wq => Below X.heap.size X wq) V2 := hCa.trans (hb8.mono hCa.size)
    have hBb := Blk.below hBa hb8 (Blk.lt hBa)
    obtain ⟨Y, hY⟩ : ∃ Y, Y = ((World.setCell V2 ⟨({ X with drawn := X.drawn + 1 } : World).heap.size, 0, none⟩ (.int .i64 wd)).setCell ⟨({ X with drawn := X.drawn + 1 } : World).heap.size, 1, none⟩ (.int .i64 wu)) := ⟨_, rfl⟩
    have hBy : Blk Y ({ X with drawn := X.drawn + 1 } : World).heap.size #[.int .i64 wd, .int .i64 wu] 37 := by rw [hY]; exact (Blk.set hBb 0 (.int .i64 wd)).set 1 (.int .i64 wu)
    have hCy : (fun wq => Below X.heap.size X wq) Y := by rw [hY]; exact set2_below hCb hlz _ _
    refine ps (k := 10) rfl rfl hCb rfl (wanted_none rfl) (w1 := Y) (by rw [hY]; exact storeR hBb wd wu rfl ((FD3.eval 11 (by omega)).trans (show _ = Value.pointer (some ⟨({ X with drawn := X.drawn + 1 } : World).heap.size, 0, none⟩) from by simp [upd, hs0, hs1, hs2, hs3, hs9, hs8, hs10])) ((FD3.eval 21 (by omega)).trans (show _ = Value.agg #[.int .i64 wd, .int .i64 wu] from by simp [upd, hs0, hs1, hs2, hs3, hs9, hs8, hs10]))) ?_
    refine pdone (fun _ => hCy) ?_
    exact hrest _ _ Y ({ X with drawn := X.drawn + 1 } : World).heap.size FD3 (show _ = Value.pointer (some ⟨gb, 0, none⟩) from by simp [upd, hs0, hs1, hs2, hs3, hs9, hs8, hs10]) (show _ = Value.string ⟨k.toArray⟩ from by simp [upd, hs0, hs1, hs2, hs3, hs9, hs8, hs10]) (show _ = Value.pointer (some ⟨lb, 0, none⟩) from by simp [upd, hs0, hs1, hs2, hs3, hs9, hs8, hs10]) (show _ = Value.pointer (some ⟨hb, 0, none⟩) from by simp [upd, hs0, hs1, hs2, hs3, hs9, hs8, hs10]) (show _ = Value.int .i64 0 from by simp [upd, hs0, hs1, hs2, hs3, hs9, hs8, hs10]) (show _ = Value.pointer (some ⟨rb, 0, none⟩) from by simp [upd, hs0, hs1, hs2, hs3, hs9, hs8, hs10]) (show _ = Value.bool false from by simp [upd, hs0, hs1, hs2, hs3, hs9, hs8, hs10]) (show _ = Value.pointer (some ⟨({ X with drawn := X.drawn + 1 } : World).heap.size, 0, none⟩) from by simp [upd, hs0, hs1, hs2, hs3, hs9, hs8, hs10]) hBy hlz hCy
end Go.Proofs.YtnphkmdanicemaaGreatDoor
