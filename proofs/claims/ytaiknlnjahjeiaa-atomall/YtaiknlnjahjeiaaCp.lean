import Derived.Test.YtaiknlnjahjeiaaJoinF
import Derived.Deep.Cut
import Derived.BigQuiet
namespace Go.Proofs.Ytaiknlnjahjeiaa
open Go.RowKit Go.PlainAid Go.MapKept
set_option linter.unusedVariables false
set_option linter.unusedSimpArgs false
def rngLeft (w : World) (mb r : Nat) : Nat :=
  match w.heap[mb]?, w.heap[r]? with
  | some (.map es _), some (.mapIter _ _ seen _) => (leftOf es seen).size
  | _, _ => 0
section
variable {K V : Type} [DecidableEq K] {M : Gm.ML K V}
theorem Rng.left {w : World} {mb r : Nat} {L D T : List (K × V)} (h : Gm.Rng M w mb r L D T) : rngLeft w mb r = T.length := by
  obtain ⟨es, c, s, sn, c0, hb, hs, he, hr, hold, hsc, hsk, hl, hp⟩ := h
  simp only [rngLeft, hb, hr]
  simpa using congrArg List.length hl
theorem Rng.next2 {w : World} {mb r : Nat} {L D T : List (K × V)} (h : Gm.Rng M w mb r L D T) :
    (T = [] ∧ ∀ ty, (Instr.next (.pointer (some ⟨r, 0, none⟩)) false ty).run Try.prog w = .ok (.tuple #[.bool false]) w) ∨
    ∃ x T' w', (∀ ty, (Instr.next (.pointer (some ⟨r, 0, none⟩)) false ty).run Try.prog w = .ok (.tuple #[.bool true, M.kE x.1, M.vE x.2]) w') ∧ (Instr.entry (.pointer (some ⟨r, 0, none⟩))).run Try.prog w' = .ok (.tuple #[M.kE x.1, M.vE x.2]) w' ∧
      Gm.Rng M w' mb r L (D ++ [x]) T' ∧ T'.length < T.length ∧ Chg (fun k => k = r) w w' ∧ w'.heap.size = w.heap.size := by
  rcases h.next 0 with ⟨h1, h2⟩ | ⟨x, T', w', h1, h2⟩
  · exact Or.inl ⟨h1, fun ty => h2⟩
  · exact Or.inr ⟨x, T', w', fun ty => h1, h2⟩
end
/-- Another map with the same counters. -/
def CpOf (L L2 : List (List UInt8 × Ct)) : Prop := ∃ D : List (List UInt8 × Ct), D.Perm L ∧ Cps D L2
theorem CpOf.eqv {L L2 : List (List UInt8 × Ct)} (h : CpOf L L2) (hk : L.Pairwise (fun p q => p.1 ≠ q.1)) : Eqv L L2 := by
  obtain ⟨D, hp, hc⟩ := h
  have e1 : Eqv L D := fun n => by rw [look_perm hp.symm hk n]
  exact e1.trans hc.look
structure CpI (w : World) (ab mb ab2 mb2 r : Nat) (L D T E : List (List UInt8 × Ct)) (wr : World) : Prop where
  rng : Gm.Rng MC wr mb r L D T
  am : AM ab2 mb2 E wr
  cps : Cps D E
  lo : w.heap.size ≤ ab2 ∧ w.heap.size ≤ mb2 ∧ ∀ p ∈ E, ∀ x, p.2.hb = some x → w.heap.size ≤ x
  rlo : w.heap.size ≤ r
  bel : Below w.heap.size w wr
theorem CpI.left {w wr : World} {ab mb ab2 mb2 r : Nat} {L D T E : List (List UInt8 × Ct)} (h : CpI w ab mb ab2 mb2 r L D T E wr) : rngLeft wr mb r = T.length := Rng.left h.rng
/-- What a round comes to: the clone is laid at nb, the counter is put. -/
theorem CpI.step {w wr w2 W3 Y Y2 : World} {ab mb ab2 mb2 r nb : Nat} {L D T T' E : List (List UInt8 × Ct)} {x : List UInt8 × Ct} (hA : AM ab mb L w) (h : CpI w ab mb ab2 mb2 r L D T E wr) (hr2 : Gm.Rng MC w2 mb r L (D ++ [x]) T') (hc2 : Chg (fun k => k = r) wr w2) (hb3 : Below w2.heap.size w2 W3)
    (hI : HI W3 nb x.2.H) (hnb : w2.heap.size ≤ nb) (hb4 : Below W3.heap.size W3 Y ∨ Chg (fun k => w2.heap.size ≤ k ∧ k ≠ nb) W3 Y) (hm : Gm.HMap MC Y2 mb2 (Gm.putM x.1 ⟨x.1, x.2.lim, x.2.val, x.2.held, some nb, x.2.H⟩ E)) (hc5 : Chg (fun k => k = mb2) Y Y2) :
    CpI w ab mb ab2 mb2 r L (D ++ [x]) T' (E ++ [(x.1, ⟨x.1, x.2.lim, x.2.val, x.2.held, some nb, x.2.H⟩)]) Y2 := by
  have hxL : x ∈ L := hr2.perm.mem_iff.1 (List.mem_append_left _ (List.mem_append_right _ (List.mem_singleton.2 rfl)))
  obtain ⟨hxn, hxo, hb, hxb, hxi, hxm⟩ := hA.ct x hxL
  have hkd : (D ++ [x] ++ T').Pairwise (fun p q => p.1 ≠ q.1) := hr2.perm.symm.pairwise hA.kd (fun h => h.symm)
  have hnew : ∀ p ∈ E, x.1 ≠ p.1 := fun p hp e => by
    have h1 : p.1 ∈ E.map (·.1) := List.mem_map.2 ⟨p, hp, rfl⟩
    rw [h.cps.keys] at h1
    obtain ⟨y, hy, hye⟩ := List.mem_map.1 h1
    have h2 := (List.pairwise_append.1 (List.pairwise_append.1 hkd).1).2.2 y hy x (List.mem_singleton.2 rfl)
    exact h2 (hye.trans e.symm)
  have hsz := hc2.size
  have hsw := h.bel.size
  have hmm : r ≠ mb := hr2.ne
  have hlomb : mb < w.heap.size := hA.map.lt
  have c34 : Chg (fun k => w2.heap.size ≤ k ∧ k ≠ nb) W3 Y := hb4.elim (fun h => Chg.ofBelow _ h) id
  have hc1 : Chg (fun k => (none : Option Nat) = some k ∨ wr.heap.size ≤ k) wr Y ∨ True := Or.inr trivial
  have hnr : r ≠ ab2 := fun e => h.rng.ne_b h.am.box e.symm
  have hnrm : r ≠ mb2 := fun e => by
    obtain ⟨_, _, _, _, _, _, _, _, h1, _⟩ := h.rng
    obtain ⟨_, _, h2, _⟩ := h.am.map
    rw [e] at h1
    rw [h1] at h2
    cases h2
  have hnrh : ∀ p ∈ E, ∀ y, p.2.hb = some y → y ≠ r := fun p hp y hy e => by
    obtain ⟨_, _, y2, c1, d1, _⟩ := h.am.ct p hp
    rw [hy] at c1
    cases c1
    obtain ⟨_, _, _, _, _, _, _, _, h1, _⟩ := h.rng
    obtain ⟨_, _, h2, _⟩ := d1
    rw [e] at h2
    rw [h1] at h2
    cases h2
  have hA2 : AM ab2 mb2 E w2 := ⟨hc2.blk h.am.box (fun e => hnr e.symm), h.am.map.same (hc2.block _ h.am.map.lt (fun e => hnrm e.symm)), fun p hp => by
    obtain ⟨a1, a2, y, c1, d1, e1⟩ := h.am.ct p hp
    exact ⟨a1, a2, y, c1, d1.same (hc2.block _ d1.lt (hnrh p hp y c1)), e1⟩, h.am.dj, h.am.kd⟩
  have hcY : Chg (fun k => (none : Option Nat) = some k ∨ w2.heap.size ≤ k) w2 Y := ((Chg.ofBelow (fun k => (none : Option Nat) = some k ∨ w2.heap.size ≤ k) hb3).trans c34 (fun k _ e => Or.inr e.1))
  have hIY : HI Y nb x.2.H := hI.same (c34.block _ hI.lt (fun e => e.2 rfl))
  have hok : (Ct.mk x.1 x.2.lim x.2.val x.2.held (some nb) x.2.H).Ok := ⟨hxo.lim, hxo.val, hxo.sum, hxo.held, hxo.pos, hxo.kd⟩
  have hput := hA2.put (hb0 := none) (L0 := w2.heap.size) hA2.lows (Nat.le_refl _) hok hcY hIY (Or.inr ⟨rfl, hnb⟩) (fun k hk => by cases hk) hm hc5
  rw [putM_new hnew] at hput
  have hwW : Below w.heap.size w w2 := h.bel.trans (hc2.below hsw (fun k e => by rw [e]; exact h.rlo))
  have hwY : Below w.heap.size w Y := hwW.trans (hcY.below hwW.size (fun k e => e.elim (fun e => by cases e) (fun e => Nat.le_trans hwW.size e)))
  have hwY2 : Below w.heap.size w Y2 := hwY.trans (hc5.below hwY.size (fun k e => by rw [e]; exact h.lo.2.1))
  refine ⟨?_, hput, h.cps.app (by simp only [Ct.dat, hxn]), ⟨h.lo.1, h.lo.2.1, fun p hp y hy => ?_⟩, h.rlo, hwY2⟩
  · refine hr2.same ?_ ?_
    · have h1 := (hcY.block mb hr2.map.lt (fun e => e.elim (fun e => by cases e) (fun e => by have := hr2.map.lt; omega)))
      have h2 := hc5.block mb (by have := hwY.size; omega) (fun e => by have := h.lo.2.1; omega)
      exact h2.trans h1
    · have h1 := (hcY.block r hr2.lt (fun e => e.elim (fun e => by cases e) (fun e => by have := hr2.lt; omega)))
      have h2 := hc5.block r (by have := hr2.lt; have := hcY.size; omega) hnrm
      exact h2.trans h1
  · rcases List.mem_append.1 hp with hp | hp
    · exact h.lo.2.2 p hp y hy
    · rw [List.mem_singleton] at hp
      subst hp
      have : nb = y := Option.some.inj hy
      have := hwW.size
      omega
set_option maxRecDepth 100000 in
set_option maxHeartbeats 3200000 in
theorem copy_any {ab mb : Nat} {L : List (List UInt8 × Ct)} (w : World) (h : AM ab mb L w) :
    Calls Try.prog 19 #[.pointer (some ⟨ab, 0, none⟩)] w fun e w' => ∃ ab2 mb2 L2, e = .returned (.pointer (some ⟨ab2, 0, none⟩)) ∧ AM ab2 mb2 L2 w' ∧ CpOf L L2 ∧ (w.heap.size ≤ ab2 ∧ w.heap.size ≤ mb2 ∧ ∀ p ∈ L2, ∀ x, p.2.hb = some x → w.heap.size ≤ x) ∧ Below w.heap.size w w' := by
  have HA : Hid (AM ab mb L w) := h
  clear h
  go_enter Try.func19, Try.ntmps19
  go_wp2_with fail
  refine Calls.mono (new_any w) ?_
  rintro e9 w1 ⟨rfl, hN, hb1⟩
  obtain ⟨ab2, hab2⟩ : ∃ b, b = w.heap.size + 1 := ⟨_, rfl⟩
  obtain ⟨mb2, hmb2⟩ : ∃ b, b = w.heap.size := ⟨_, rfl⟩
  rw [← hab2, ← hmb2] at hN
  rw [← hab2]
  have HLO : Hid (w.heap.size ≤ ab2 ∧ w.heap.size ≤ mb2) := ⟨by omega, by omega⟩
  clear hab2 hmb2
  have hA1 := HA.out.more hb1
  have b0 : w1.cell? ⟨ab, 0, none⟩ = some (.map (some mb)) := hA1.box.cell 0
  obtain ⟨w2, hrg, hR, hbr, hsr⟩ := hA1.map.range
  replace hrg : (Instr.range 57 (.map (some mb))).run Try.prog w1 = .ok (.pointer (some ⟨w1.heap.size, 0, none⟩)) w2 := hrg
  obtain ⟨r, hr⟩ : ∃ r, r = w1.heap.size := ⟨_, rfl⟩
  rw [← hr] at hR hrg
  have HI0 : Hid (CpI w ab mb ab2 mb2 r L [] L [] w2) := ⟨hR, hN.more hbr, rfl, ⟨HLO.out.1, HLO.out.2, fun p hp => by cases hp⟩, by rw [hr]; exact hb1.size, hb1.trans (hbr.mono hb1.size)⟩
  clear hN hb1 hA1 hR hbr hsr hr
  go_wp2_with fail
  go_loopw [4, 5] (fun _ _ wr => ∃ D T E, CpI w ab mb ab2 mb2 r L D T E wr) (fun _ _ wr => rngLeft wr mb r)
  case atStart => exact ⟨[], L, [], HI0.out⟩
  case round =>
    obtain ⟨D, T, E, hI⟩ := hrel
    clear hrg b0 HI0
    rcases Rng.next2 hI.rng with ⟨hT, hnx⟩ | ⟨x, T', w3, hnx, hen, hr3, hlt3, hc3, hs3⟩
    · have HF : Hid (CpI w ab mb ab2 mb2 r L D T E wr) := hI
      have HT : Hid (T = []) := hT
      clear hI hT
      go_wp2_with fail
      go_ret
      exact ⟨ab2, mb2, E, rfl, HF.out.am, ⟨D, by have := HF.out.rng.perm; rw [HT.out, List.append_nil] at this; exact this, HF.out.cps⟩, HF.out.lo, HF.out.bel⟩
    · have hxL : x ∈ L := hr3.perm.mem_iff.1 (List.mem_append_left _ (List.mem_append_right _ (List.mem_singleton.2 rfl)))
      obtain ⟨hxn, hxo, ob, hxb, hxi, hxm⟩ := HA.out.ct x hxL
      obtain ⟨n, c⟩ := x
      simp only at hxn hxb hxi hxo
      have HII : Hid (CpI w ab mb ab2 mb2 r L D T E wr) := hI
      have HR3 : Hid (Gm.Rng MC w3 mb r L (D ++ [(n, c)]) T') := hr3
      have HC3 : Hid (Chg (fun k => k = r) wr w3) := hc3
      have HLT : Hid (T'.length < rngLeft wr mb r) := show T'.length < rngLeft wr mb r from by rw [hI.left]; exact hlt3
      have HNM : Hid (c.nm = n) := hxn
      have hw3 : Below w.heap.size w w3 := hI.bel.trans (hc3.below hI.bel.size (fun k e => by rw [e]; exact hI.rlo))
      have HI3 : Hid (HI w3 ob c.H) := hxi.same (hw3.block _ hxi.lt)
      replace hnx : ∀ ty, (Instr.next (.pointer (some ⟨r, 0, none⟩)) false ty).run Try.prog wr = .ok (.tuple #[.bool true, .string ⟨n.toArray⟩, .agg #[.string ⟨c.nm.toArray⟩, .int .i64 c.lim, .int .i64 c.val, .int .i64 c.held, .map (some ob)]]) w3 := fun ty => by have h := hnx ty; simp only [MC, Str, ctV, Ct.cs, hxb] at h; exact h
      replace hen : (Instr.entry (.pointer (some ⟨r, 0, none⟩))).run Try.prog w3 = .ok (.tuple #[.string ⟨n.toArray⟩, .agg #[.string ⟨c.nm.toArray⟩, .int .i64 c.lim, .int .i64 c.val, .int .i64 c.held, .map (some ob)]]) w3 := by have h := hen; simp only [MC, Str, ctV, Ct.cs, hxb] at h; exact h
      obtain ⟨cb, hcb⟩ : ∃ b, b = w3.heap.size := ⟨_, rfl⟩
      obtain ⟨X, hX⟩ : ∃ X, X = w3.alloc (.cells #[.string ⟨c.nm.toArray⟩, .int .i64 c.lim, .int .i64 c.val, .int .i64 c.held, .map (some ob)] 67) := ⟨_, rfl⟩
      have hbX : Below w3.heap.size w3 X := by rw [hX]; exact (Below.refl _ _).alloc (Nat.le_refl _) _
      have BXC : Hid (Blk X cb #[.string ⟨c.nm.toArray⟩, .int .i64 c.lim, .int .i64 c.val, .int .i64 c.held, .map (some ob)] 67) := show Blk X cb #[.string ⟨c.nm.toArray⟩, .int .i64 c.lim, .int .i64 c.val, .int .i64 c.held, .map (some ob)] 67 from by rw [hX, hcb]; exact heap_alloc_new w3 _
      have HBX : Hid (Below w3.heap.size w3 X) := hbX
      have HCL : Hid (w3.heap.size ≤ cb) := show w3.heap.size ≤ cb from by omega
      have x4 : X.cell? ⟨cb, 4, none⟩ = some (.map (some ob)) := BXC.out.cell 4
      have HMC : Hid _ := mclone_any X (HI3.out.same (hbX.block _ HI3.out.lt))
      clear hI hr3 hlt3 hc3 hs3 hxL hxn hxo hxb hxi hxm hw3 hbX
      go_upto_region 5 with fail
      rw [← hX, ← hcb]
      clear hX hcb hnx hen
      go_wp2_with fail
      refine Calls.mono HMC.out ?_
      rintro e9 W4 ⟨rfl, hIn, hb4⟩
      obtain ⟨nb, hnb⟩ : ∃ b, b = X.heap.size := ⟨_, rfl⟩
      rw [← hnb] at hIn ⊢
      have B4C : Blk W4 cb #[.string ⟨c.nm.toArray⟩, .int .i64 c.lim, .int .i64 c.val, .int .i64 c.held, .map (some ob)] 67 := BXC.out.below hb4 BXC.out.lt
      have f4 : W4.frozen? ⟨cb, 4, none⟩ = false := B4C.frozen 4
      have c4 : W4.cell? ⟨cb, 4, none⟩ = some (.map (some ob)) := B4C.cell 4
      obtain ⟨Y, hY⟩ : ∃ Y, Y = W4.setCell ⟨cb, 4, none⟩ (.map (some nb)) := ⟨_, rfl⟩
      have YCB : Hid (Blk Y cb #[.string ⟨c.nm.toArray⟩, .int .i64 c.lim, .int .i64 c.val, .int .i64 c.held, .map (some nb)] 67) := show Blk Y cb #[.string ⟨c.nm.toArray⟩, .int .i64 c.lim, .int .i64 c.val, .int .i64 c.held, .map (some nb)] 67 from by rw [hY]; exact B4C.set 4 _
      have hcY : Chg (fun k => k = cb) W4 Y := by rw [hY]; exact setCell_chg _ _ _ _
      have hne : cb ≠ nb := by have := BXC.out.lt; omega
      have hA2w : Blk wr ab2 #[.map (some mb2)] 59 := HII.out.am.box
      have hA2w3 : Blk w3 ab2 #[.map (some mb2)] 59 := HC3.out.blk hA2w (HII.out.rng.ne_b hA2w)
      have hb34 : Below w3.heap.size w3 W4 := HBX.out.trans (hb4.mono HBX.out.size)
      have hA2Y : Blk Y ab2 #[.map (some mb2)] 59 := hcY.blk (hA2w3.below hb34 hA2w3.lt) (fun e => by have := HCL.out; have := hA2w3.lt; omega)
      have YAB : Hid (Blk Y ab2 #[.map (some mb2)] 59) := hA2Y
      have hnm2 : r ≠ mb2 := fun e => by
        obtain ⟨_, _, _, _, _, _, _, _, h1, _⟩ := HII.out.rng
        obtain ⟨_, _, h2, _⟩ := HII.out.am.map
        rw [e] at h1
        rw [h1] at h2
        cases h2
      have hm3 : Gm.HMap MC w3 mb2 E := HII.out.am.map.same (HC3.out.block _ HII.out.am.map.lt (fun e => hnm2 e.symm))
      have hmY : Gm.HMap MC Y mb2 E := (hm3.same (hb34.block _ hm3.lt)).same (hcY.block _ (by have := hb34.size; have := hm3.lt; omega) (fun e => by have := HCL.out; have := hm3.lt; omega))
      have hmD : Gm.HMap MC Y.drew mb2 E := hmY.same rfl
      obtain ⟨Y2, hrun, hm2, hc2, hs2⟩ := hmD.putM n (Ct.mk n c.lim c.val c.held (some nb) c.H)
      have HRUN : Hid ((Instr.mapUpdate 57 (.map (some mb2)) (.string ⟨n.toArray⟩) (.agg #[.string ⟨c.nm.toArray⟩, .int .i64 c.lim, .int .i64 c.val, .int .i64 c.held, .map (some nb)])).run Try.prog ({ Y with drawn := Y.drawn + 1 } : World) = .ok () Y2) := show (Instr.mapUpdate 57 (.map (some mb2)) (.string ⟨n.toArray⟩) (.agg #[.string ⟨c.nm.toArray⟩, .int .i64 c.lim, .int .i64 c.val, .int .i64 c.held, .map (some nb)])).run Try.prog ({ Y with drawn := Y.drawn + 1 } : World) = .ok () Y2 from by rw [HNM.out]; exact hrun
      have hcD : Chg (fun k => k = mb2) Y Y2 := ⟨hc2.os, hc2.tape, hc2.output, hc2.size, hc2.block⟩
      have HN : Hid (CpI w ab mb ab2 mb2 r L (D ++ [(n, c)]) T' (E ++ [(n, ⟨n, c.lim, c.val, c.held, some nb, c.H⟩)]) Y2) := HII.out.step HA.out HR3.out HC3.out hb34 (nb := nb) hIn (by have := HBX.out.size; omega) (Or.inr (hcY.mono (fun k _ e => ⟨by rw [e]; exact HCL.out, by rw [e]; exact hne⟩))) hm2 hcD
      clear hIn hb4 hnb B4C hcY hne hA2w hA2w3 hb34 hA2Y hnm2 hm3 hmY hmD hrun hm2 hc2 hs2 hcD x4 HMC
      go_upto_region 6 with fail
      rw [← hY]
      clear hY f4 c4
      go_wp2_with fail
      first | rename_i K hK | skip
      try rw [show ∀ a : Act, a.put none undef = a from fun _ => rfl]
      refine wp_region_mix (fun wq => Blk wq ab2 #[.map (some mb2)] 59 ∧ Blk wq cb #[.string ⟨c.nm.toArray⟩, .int .i64 c.lim, .int .i64 c.val, .int .i64 c.held, .map (some nb)] 67 ∧ wq = Y.drew) (fun i => i == 6) 6 (by kernel_rfl) rfl (by kernel_rfl) (by kernel_rfl) (by kernel_rfl) ?_
      refine withFrP (N := 28) rfl ?_
      intro f0 F0 hff
      have e3 : f0 3 = Value.pointer (some ⟨ab2, 0, none⟩) := hff 3
      have e4 : f0 4 = Value.string ⟨n.toArray⟩ := hff 4
      have e5 : f0 5 = Value.pointer (some ⟨cb, 0, none⟩) := hff 5
      clear hff
      have HCC : (fun wq => Blk wq ab2 #[.map (some mb2)] 59 ∧ Blk wq cb #[.string ⟨c.nm.toArray⟩, .int .i64 c.lim, .int .i64 c.val, .int .i64 c.held, .map (some nb)] 67 ∧ wq = Y.drew) (({ Y with drawn := Y.drawn + 1 } : World)) := ⟨YAB.out, YCB.out, rfl⟩
      refine lyp F0 rfl HCC rfl (by omega) (wanted_none rfl) (v := Value.pointer (some ⟨ab2, 0, none⟩)) (fun wr hwr => by simp only [execOp, (F0.eval 3 (by omega)).trans (show _ = Value.pointer (some ⟨ab2, 0, none⟩) from by simp [upd, e3, e4, e5])]; first | rfl | simp [go_sem]) fun F1 => ?_
      refine lyp F1 rfl HCC rfl (by omega) (wanted_none rfl) (v := Value.pointer (some ⟨ab2, 0, none⟩)) (fun wr hwr => by simp only [execOp, (F1.eval 21 (by omega)).trans (show _ = Value.pointer (some ⟨ab2, 0, none⟩) from by simp [upd, e3, e4, e5])]; simp [go_sem]) fun F2 => ?_
      refine lyp F2 rfl HCC rfl (by omega) (wanted_none rfl) (v := Value.pointer (some ⟨ab2, 0, none⟩)) (fun wr hwr => by simp only [execOp, (F2.eval 22 (by omega)).trans (show _ = Value.pointer (some ⟨ab2, 0, none⟩) from by simp [upd, e3, e4, e5])]; simp [go_sem]) fun F3 => ?_
      refine lyp F3 rfl HCC rfl (by omega) (wanted_none rfl) (v := Value.map (some mb2)) (fun wr hwr => by simp only [execOp, (F3.eval 23 (by omega)).trans (show _ = Value.pointer (some ⟨ab2, 0, none⟩) from by simp [upd, e3, e4, e5])]; simp [go_sem, show wr.cell? ⟨ab2, 0, none⟩ = some (.map (some mb2)) from hwr.1.cell 0]) fun F4 => ?_
      refine lyp F4 rfl HCC rfl (by omega) (wanted_none rfl) (v := Value.string ⟨n.toArray⟩) (fun wr hwr => by simp only [execOp, (F4.eval 4 (by omega)).trans (show _ = Value.string ⟨n.toArray⟩ from by simp [upd, e3, e4, e5])]; first | rfl | simp [go_sem]) fun F5 => ?_
      refine lyp F5 rfl HCC rfl (by omega) (wanted_none rfl) (v := Value.agg #[.string ⟨c.nm.toArray⟩, .int .i64 c.lim, .int .i64 c.val, .int .i64 c.held, .map (some nb)]) (fun wr hwr => by simp only [execOp, (F5.eval 5 (by omega)).trans (show _ = Value.pointer (some ⟨cb, 0, none⟩) from by simp [upd, e3, e4, e5])]; simp [go_sem, show wr.cell? ⟨cb, 0, none⟩ = some (.string ⟨c.nm.toArray⟩) from hwr.2.1.cell 0, show wr.cell? ⟨cb, 1, none⟩ = some (.int .i64 c.lim) from hwr.2.1.cell 1, show wr.cell? ⟨cb, 2, none⟩ = some (.int .i64 c.val) from hwr.2.1.cell 2, show wr.cell? ⟨cb, 3, none⟩ = some (.int .i64 c.held) from hwr.2.1.cell 3, show wr.cell? ⟨cb, 4, none⟩ = some (.map (some nb)) from hwr.2.1.cell 4]) fun F6 => ?_
      refine lst rfl HCC rfl (wanted_none rfl) (w1 := Y2) (by simp only [execOp, (F6.eval 24 (by omega)).trans (show _ = Value.map (some mb2) from by simp [upd, e3, e4, e5]), (F6.eval 25 (by omega)).trans (show _ = Value.string ⟨n.toArray⟩ from by simp [upd, e3, e4, e5]), (F6.eval 26 (by omega)).trans (show _ = Value.agg #[.string ⟨c.nm.toArray⟩, .int .i64 c.lim, .int .i64 c.val, .int .i64 c.held, .map (some nb)] from by simp [upd, e3, e4, e5])]; simp only [Sem.run_bind, Sem.run_pure, Result.andThen_ok, HRUN.out]; try rfl) ?_
      refine ⟨(fun h => absurd h (by decide)), ?_⟩
      first | refine hK _ _ ?_ | skip
      clear F0 F1 F2 F3 F4 F5 F6 e3 e4 e5 HCC
      simp only [Act.put, List.setIfInBounds_toArray, List.set_cons_succ, List.set_cons_zero]
      go_wp2_with fail
      go_roundw
      case rel => exact ⟨_, _, _, HN.out⟩
      case measure => rw [HN.out.left]; exact HLT.out
end Go.Proofs.Ytaiknlnjahjeiaa
