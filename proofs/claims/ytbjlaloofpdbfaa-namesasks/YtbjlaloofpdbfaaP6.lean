import Derived.Test.YtbjlaloofpdbfaaP5
import Derived.Test.YtbjlaloofpdbfaaPlan
namespace Go.Proofs.Ytbjlaloofpdbfaa
open Go.RowKit Go.PlainAid
set_option linter.unusedVariables false
set_option linter.unusedSimpArgs false
theorem store4 {W : World} {bx : Nat} {c0 c1 c2 c3 : Value} (h : Blk W bx #[c0, c1, c2, c3] 39) (u : OpA) {ev : Operand → Value} {o : Oper} {x y : Operand} (ho : o.op = .store 39 x y) (hx : ev x = .pointer (some ⟨bx, 0, none⟩)) (hy : ev y = .agg #[.int .i64 u.k, .string ⟨u.n.toArray⟩, .int .i64 u.a, .int .i64 u.b]) : (execOp ev o).run Try.prog W = .ok .skip ((((World.setCell W ⟨bx, 0, none⟩ (.int .i64 u.k)).setCell ⟨bx, 1, none⟩ (.string ⟨u.n.toArray⟩)).setCell ⟨bx, 2, none⟩ (.int .i64 u.a)).setCell ⟨bx, 3, none⟩ (.int .i64 u.b)) := by
  have b0 := h
  have f0 : World.frozen? W ⟨bx, 0, none⟩ = false := b0.frozen 0
  have d0 : World.cell? W ⟨bx, 0, none⟩ = some c0 := b0.cell 0
  have b1 := b0.set 0 (.int .i64 u.k)
  have f1 : World.frozen? (World.setCell W ⟨bx, 0, none⟩ (.int .i64 u.k)) ⟨bx, 1, none⟩ = false := b1.frozen 1
  have d1 : World.cell? (World.setCell W ⟨bx, 0, none⟩ (.int .i64 u.k)) ⟨bx, 1, none⟩ = some c1 := b1.cell 1
  have b2 := b1.set 1 (.string ⟨u.n.toArray⟩)
  have f2 : World.frozen? (World.setCell (World.setCell W ⟨bx, 0, none⟩ (.int .i64 u.k)) ⟨bx, 1, none⟩ (.string ⟨u.n.toArray⟩)) ⟨bx, 2, none⟩ = false := b2.frozen 2
  have d2 : World.cell? (World.setCell (World.setCell W ⟨bx, 0, none⟩ (.int .i64 u.k)) ⟨bx, 1, none⟩ (.string ⟨u.n.toArray⟩)) ⟨bx, 2, none⟩ = some c2 := b2.cell 2
  have b3 := b2.set 2 (.int .i64 u.a)
  have f3 : World.frozen? (World.setCell (World.setCell (World.setCell W ⟨bx, 0, none⟩ (.int .i64 u.k)) ⟨bx, 1, none⟩ (.string ⟨u.n.toArray⟩)) ⟨bx, 2, none⟩ (.int .i64 u.a)) ⟨bx, 3, none⟩ = false := b3.frozen 3
  have d3 : World.cell? (World.setCell (World.setCell (World.setCell W ⟨bx, 0, none⟩ (.int .i64 u.k)) ⟨bx, 1, none⟩ (.string ⟨u.n.toArray⟩)) ⟨bx, 2, none⟩ (.int .i64 u.a)) ⟨bx, 3, none⟩ = some c3 := b3.cell 3
  clear b0 b1 b2 b3
  simp only [execOp, ho, hx, hy]
  simp [go_sem, f0, d0, f1, d1, f2, d2, f3, d3]
theorem chg4 {W : World} {bx : Nat} {c0 c1 c2 c3 : Value} (h : Blk W bx #[c0, c1, c2, c3] 39) (u : OpA) : Chg (fun k => k = bx) W ((((World.setCell W ⟨bx, 0, none⟩ (.int .i64 u.k)).setCell ⟨bx, 1, none⟩ (.string ⟨u.n.toArray⟩)).setCell ⟨bx, 2, none⟩ (.int .i64 u.a)).setCell ⟨bx, 3, none⟩ (.int .i64 u.b)) ∧ Blk ((((World.setCell W ⟨bx, 0, none⟩ (.int .i64 u.k)).setCell ⟨bx, 1, none⟩ (.string ⟨u.n.toArray⟩)).setCell ⟨bx, 2, none⟩ (.int .i64 u.a)).setCell ⟨bx, 3, none⟩ (.int .i64 u.b)) bx #[.int .i64 u.k, .string ⟨u.n.toArray⟩, .int .i64 u.a, .int .i64 u.b] 39 := by
  have one : ∀ (w : World) (j : Nat) (v : Value), Chg (fun b => b = bx) w (w.setCell ⟨bx, j, none⟩ v) := fun w j v => ⟨rfl, rfl, rfl, by simp [World.setCell], fun j hj hn => Below.heap_setCell _ _ _ _ hn⟩
  exact ⟨(((one _ _ _).trans (one _ _ _) (fun _ _ e => e)).trans (one _ _ _) (fun _ _ e => e)).trans (one _ _ _) (fun _ _ e => e), (((h.set 0 (.int .i64 u.k)).set 1 (.string ⟨u.n.toArray⟩)).set 2 (.int .i64 u.a)).set 3 (.int .i64 u.b)⟩
theorem AP.setO {S0 pb hb mh mw B rb : Nat} {me rep per mk : Int} {KN : List (List UInt8 × Int)} {KL : List (List UInt8)} {WT WL : List ((Int × Int) × OpA)} {lt wt lc wc : Value} {w w' : World} (h : AP S0 pb hb mh mw B rb me rep per KN WT KL WL mk lt wt lc wc w) {bx : Nat} {D : Array Value} (hB : Blk w bx D 39) (hlo : S0 ≤ bx) (hc : Chg (fun k => k = bx) w w') : AP S0 pb hb mh mw B rb me rep per KN WT KL WL mk lt wt lc wc w' ∧ BK S0 w w' := by
  obtain ⟨kl, wl, hr⟩ := h.r
  exact ⟨⟨hc.blk h.p (h.p.ne_t hB (by decide)), h.t.keep hc (h.t.blk.ne_t hB (by decide)) (fun e => h.t.hm.ne_b hB e.symm) (fun e => h.t.wm.ne_b hB e.symm), ⟨kl, wl, hr.keep hc (fun b e hb => RA.nb hr hB (by decide) (by decide) (by decide) (hb ▸ e))⟩, h.lo, Nat.le_trans h.low hc.size⟩, ⟨hc.below h.low (fun k e => by rw [e]; exact hlo), fun b D hB2 => hc.blk hB2 (hB2.ne_t hB (by decide))⟩⟩
set_option maxRecDepth 100000 in
set_option maxHeartbeats 3200000 in
theorem callT {S0 pb hb mh mw B rb : Nat} {me rep per mk : Int} {KL : List (List UInt8)} {WT : List ((Int × Int) × OpA)} {lt wt lc wc : Value} (n : List UInt8) (c : Int × Int) (o : OpA) (w : World) (h : AP S0 pb hb mh mw B rb me rep per (KNof rep KL) WT KL WT mk lt wt lc wc w) (hL : KL.length ≤ 100000) (hW : WT.length ≤ 100000) :
    Calls Try.prog 43 #[.pointer (some ⟨pb, 0, none⟩), .agg #[.int .i64 4, .string ⟨n.toArray⟩, .int .i64 c.1, .int .i64 c.2, .int .i64 o.k, .string ⟨o.n.toArray⟩, .int .i64 o.a, .int .i64 o.b]] w fun e w' => e = .returned (.bool true) ∧ AP S0 pb hb mh mw B rb me rep per (KNof rep KL) (rmK c WT) KL (rmK c WT) mk lt wt lc wc w' ∧ BK S0 w w' := by
  obtain ⟨l0, hl0⟩ : ∃ l0, l0 = (look c WT).getD zop := ⟨_, rfl⟩
  obtain ⟨th, hth⟩ : ∃ th, th = (look c WT).isSome := ⟨_, rfl⟩
  have HM1 : Hid (∀ w', Tb hb mh mw me rep per (KNof rep KL) WT w' → Calls Try.prog 18 #[.pointer (some ⟨hb, 0, none⟩), .agg #[.int .i64 c.1, .int .i64 c.2]] w' fun q w'' => q = .returned (.tuple #[.agg #[.int .i64 l0.k, .string ⟨l0.n.toArray⟩, .int .i64 l0.a, .int .i64 l0.b], .bool th]) ∧ Tb hb mh mw me rep per (KNof rep KL) (rmK c WT) w'' ∧ Chg (fun k => k = mw) w' w'') := fun w' hT => by
    rw [hl0, hth]
    exact told_any c w' hT
  have HM2 : Hid (∀ {kl wl : Value} w', RT B rb kl wl me rep per KL WT w' → Calls Try.prog 57 #[.pointer (some ⟨rb, 0, none⟩), .agg #[.int .i64 c.1, .int .i64 c.2]] w' fun q w'' => q = .returned (.tuple #[.agg #[.int .i64 l0.k, .string ⟨l0.n.toArray⟩, .int .i64 l0.a, .int .i64 l0.b], .bool th]) ∧ RPost B rb kl wl me rep per KL (rmK c WT) w' w'') := fun w' hR => by
    rw [hl0, hth]
    exact rtold_any c w' hR hW
  obtain ⟨X, hX⟩ : ∃ X, X = w.alloc (.cells #[.int .i64 4, .string ⟨n.toArray⟩, .int .i64 c.1, .int .i64 c.2, .int .i64 o.k, .string ⟨o.n.toArray⟩, .int .i64 o.a, .int .i64 o.b] 41) := ⟨_, rfl⟩
  have hbX : Below w.heap.size w X := by rw [hX]; exact (Below.refl _ _).alloc (Nat.le_refl _) _
  obtain ⟨bx, hbx⟩ : ∃ bx, bx = w.heap.size := ⟨_, rfl⟩
  have HBXX : Hid (Blk X bx #[.int .i64 4, .string ⟨n.toArray⟩, .int .i64 c.1, .int .i64 c.2, .int .i64 o.k, .string ⟨o.n.toArray⟩, .int .i64 o.a, .int .i64 o.b] 41) := show Blk X bx #[.int .i64 4, .string ⟨n.toArray⟩, .int .i64 c.1, .int .i64 c.2, .int .i64 o.k, .string ⟨o.n.toArray⟩, .int .i64 o.a, .int .i64 o.b] 41 from by rw [hX, hbx]; exact heap_alloc_new w _
  have HAPX : Hid (AP S0 pb hb mh mw B rb me rep per (KNof rep KL) WT KL WT mk lt wt lc wc X) := h.more hbX
  have HS0 : Hid (BK S0 w X) := BK.of hbX h.low
  have b0 : X.cell? ⟨bx, 0, none⟩ = some (.int .i64 4) := HBXX.out.cell 0
  generalize rmK c WT = W2l at *
  clear hl0 hth h hL hW hbX
  go_enter Try.func43, Try.ntmps43
  go_upto_region 12 with fail
  rw [← hX, ← hbx]
  clear hX hbx
  go_wp2_with fail
  rename_i K hK
  try rw [show ∀ a : Act, a.put none undef = a from fun _ => rfl]
  have hrest : ∀ (a : Act) (f' : Nat → Value) (Y : World) (b1 : Nat), Fr 129 a f' → f' 0 = Value.pointer (some ⟨pb, 0, none⟩) → f' 3 = Value.pointer (some ⟨bx, 0, none⟩) → f' 8 = Value.pointer (some ⟨b1, 0, none⟩) → f' 9 = Value.bool th → AP S0 pb hb mh mw B rb me rep per (KNof rep KL) W2l KL WT mk lt wt lc wc Y → Blk Y bx #[.int .i64 4, .string ⟨n.toArray⟩, .int .i64 c.1, .int .i64 c.2, .int .i64 o.k, .string ⟨o.n.toArray⟩, .int .i64 o.a, .int .i64 o.b] 41 → Blk Y b1 #[.int .i64 l0.k, .string ⟨l0.n.toArray⟩, .int .i64 l0.a, .int .i64 l0.b] 39 → BK S0 w Y → K a Y := by
    intro a f' Y b1 F' k0 k3 k8 k9 hAY hxY hb1 hSY
    refine hK _ _ ?_
    rw [F'.lit, show ((List.range 129).map f').toArray = #[f' 0, f' 1, f' 2, f' 3, f' 4, f' 5, f' 6, f' 7, f' 8, f' 9, f' 10, f' 11, f' 12, f' 13, f' 14, f' 15, f' 16, f' 17, f' 18, f' 19, f' 20, f' 21, f' 22, f' 23, f' 24, f' 25, f' 26, f' 27, f' 28, f' 29, f' 30, f' 31, f' 32, f' 33, f' 34, f' 35, f' 36, f' 37, f' 38, f' 39, f' 40, f' 41, f' 42, f' 43, f' 44, f' 45, f' 46, f' 47, f' 48, f' 49, f' 50, f' 51, f' 52, f' 53, f' 54, f' 55, f' 56, f' 57, f' 58, f' 59, f' 60, f' 61, f' 62, f' 63, f' 64, f' 65, f' 66, f' 67, f' 68, f' 69, f' 70, f' 71, f' 72, f' 73, f' 74, f' 75, f' 76, f' 77, f' 78, f' 79, f' 80, f' 81, f' 82, f' 83, f' 84, f' 85, f' 86, f' 87, f' 88, f' 89, f' 90, f' 91, f' 92, f' 93, f' 94, f' 95, f' 96, f' 97, f' 98, f' 99, f' 100, f' 101, f' 102, f' 103, f' 104, f' 105, f' 106, f' 107, f' 108, f' 109, f' 110, f' 111, f' 112, f' 113, f' 114, f' 115, f' 116, f' 117, f' 118, f' 119, f' 120, f' 121, f' 122, f' 123, f' 124, f' 125, f' 126, f' 127, f' 128] from rfl, k0, k3, k8, k9]
    have HAPY : Hid (AP S0 pb hb mh mw B rb me rep per (KNof rep KL) W2l KL WT mk lt wt lc wc Y) := hAY
    have HBXY : Hid (Blk Y bx #[.int .i64 4, .string ⟨n.toArray⟩, .int .i64 c.1, .int .i64 c.2, .int .i64 o.k, .string ⟨o.n.toArray⟩, .int .i64 o.a, .int .i64 o.b] 41) := hxY
    have HB1 : Hid (Blk Y b1 #[.int .i64 l0.k, .string ⟨l0.n.toArray⟩, .int .i64 l0.a, .int .i64 l0.b] 39) := hb1
    have HSY : Hid (BK S0 w Y) := hSY
    clear hK F' k0 k3 k8 k9 HAPX HBXX HS0 HM1 b0 hAY hxY hb1 hSY
    go_wp2_with fail
    rename_i K2 hK2
    try rw [show ∀ a : Act, a.put none undef = a from fun _ => rfl]
    have hrest2 : ∀ (a : Act) (f' : Nat → Value) (Z : World) (b2 : Nat), Fr 129 a f' → f' 0 = Value.pointer (some ⟨pb, 0, none⟩) → f' 3 = Value.pointer (some ⟨bx, 0, none⟩) → f' 8 = Value.pointer (some ⟨b1, 0, none⟩) → f' 9 = Value.bool th → f' 10 = Value.pointer (some ⟨b2, 0, none⟩) → f' 11 = Value.bool th → AP S0 pb hb mh mw B rb me rep per (KNof rep KL) W2l KL W2l mk lt wt lc wc Z → Blk Z bx #[.int .i64 4, .string ⟨n.toArray⟩, .int .i64 c.1, .int .i64 c.2, .int .i64 o.k, .string ⟨o.n.toArray⟩, .int .i64 o.a, .int .i64 o.b] 41 → Blk Z b1 #[.int .i64 l0.k, .string ⟨l0.n.toArray⟩, .int .i64 l0.a, .int .i64 l0.b] 39 → Blk Z b2 #[.int .i64 l0.k, .string ⟨l0.n.toArray⟩, .int .i64 l0.a, .int .i64 l0.b] 39 → BK S0 w Z → K2 a Z := by
      intro a f' Z b2 F' k0 k3 k8 k9 k10 k11 hAZ hxZ hb1 hb2 hSZ
      refine hK2 _ _ ?_
      rw [F'.lit, show ((List.range 129).map f').toArray = #[f' 0, f' 1, f' 2, f' 3, f' 4, f' 5, f' 6, f' 7, f' 8, f' 9, f' 10, f' 11, f' 12, f' 13, f' 14, f' 15, f' 16, f' 17, f' 18, f' 19, f' 20, f' 21, f' 22, f' 23, f' 24, f' 25, f' 26, f' 27, f' 28, f' 29, f' 30, f' 31, f' 32, f' 33, f' 34, f' 35, f' 36, f' 37, f' 38, f' 39, f' 40, f' 41, f' 42, f' 43, f' 44, f' 45, f' 46, f' 47, f' 48, f' 49, f' 50, f' 51, f' 52, f' 53, f' 54, f' 55, f' 56, f' 57, f' 58, f' 59, f' 60, f' 61, f' 62, f' 63, f' 64, f' 65, f' 66, f' 67, f' 68, f' 69, f' 70, f' 71, f' 72, f' 73, f' 74, f' 75, f' 76, f' 77, f' 78, f' 79, f' 80, f' 81, f' 82, f' 83, f' 84, f' 85, f' 86, f' 87, f' 88, f' 89, f' 90, f' 91, f' 92, f' 93, f' 94, f' 95, f' 96, f' 97, f' 98, f' 99, f' 100, f' 101, f' 102, f' 103, f' 104, f' 105, f' 106, f' 107, f' 108, f' 109, f' 110, f' 111, f' 112, f' 113, f' 114, f' 115, f' 116, f' 117, f' 118, f' 119, f' 120, f' 121, f' 122, f' 123, f' 124, f' 125, f' 126, f' 127, f' 128] from rfl, k0, k3, k8, k9, k10, k11]
      have HF : Hid _ := hAZ
      have HFB : Hid _ := hSZ
      have b1c0 : Z.cell? ⟨b1, 0, none⟩ = some (.int .i64 l0.k) := hb1.cell 0
      have b1c1 : Z.cell? ⟨b1, 1, none⟩ = some (.string ⟨l0.n.toArray⟩) := hb1.cell 1
      have b1c2 : Z.cell? ⟨b1, 2, none⟩ = some (.int .i64 l0.a) := hb1.cell 2
      have b1c3 : Z.cell? ⟨b1, 3, none⟩ = some (.int .i64 l0.b) := hb1.cell 3
      have b2c0 : Z.cell? ⟨b2, 0, none⟩ = some (.int .i64 l0.k) := hb2.cell 0
      have b2c1 : Z.cell? ⟨b2, 1, none⟩ = some (.string ⟨l0.n.toArray⟩) := hb2.cell 1
      have b2c2 : Z.cell? ⟨b2, 2, none⟩ = some (.int .i64 l0.a) := hb2.cell 2
      have b2c3 : Z.cell? ⟨b2, 3, none⟩ = some (.int .i64 l0.b) := hb2.cell 3
      clear hK2 F' k0 k3 k8 k9 k10 k11 HAPY HBXY HB1 HSY HM2 hAZ hxZ hb1 hb2 hSZ
      cases th
      · go_wp2_with fail
        go_ret
        exact ⟨rfl, HF.out, HFB.out⟩
      · go_wp2_with fail
        go_ret
        exact ⟨rfl, HF.out, HFB.out⟩
    clear hK2
    obtain ⟨kl, wl, hr3⟩ := HAPY.out.r
    refine wp_region_plan (fun wz => wz.cell? ⟨pb, 1, none⟩ = some (.pointer (some ⟨rb, 0, none⟩)) ∧ Blk wz bx #[.int .i64 4, .string ⟨n.toArray⟩, .int .i64 c.1, .int .i64 c.2, .int .i64 o.k, .string ⟨o.n.toArray⟩, .int .i64 o.a, .int .i64 o.b] 41) (fun i => i == 6 || i == 10 || i == 11 || i == 99) 99 (.one 0 (.one 1 (.one 2 (.one 3 (.one 4 (.one 5 (.two 6 10 (.one 7 (.one 8 (.one 9 (.one 10 (.one 11 (.one 12 (.done))))))) (.one 6 (.one 7 (.one 8 (.one 9 (.one 11 (.one 12 (.done)))))))))))))) (by kernel_rfl) rfl (by kernel_rfl) (by kernel_rfl) rfl (by kernel_rfl) ?_
    refine withFrG (N := 129) rfl ?_
    intro a0 f0 F0 hff
    have hs0 : f0 0 = Value.pointer (some ⟨pb, 0, none⟩) := hff 0
    have hs3 : f0 3 = Value.pointer (some ⟨bx, 0, none⟩) := hff 3
    have hs8 : f0 8 = Value.pointer (some ⟨b1, 0, none⟩) := hff 8
    have hs9 : f0 9 = Value.bool th := hff 9
    clear hff
    have HCC : (fun wz => wz.cell? ⟨pb, 1, none⟩ = some (.pointer (some ⟨rb, 0, none⟩)) ∧ Blk wz bx #[.int .i64 4, .string ⟨n.toArray⟩, .int .i64 c.1, .int .i64 c.2, .int .i64 o.k, .string ⟨o.n.toArray⟩, .int .i64 o.a, .int .i64 o.b] 41) ({ Y with drawn := Y.drawn + 1 } : World) := ⟨Blk.cell (AP.p HAPY.out) 1, HBXY.out⟩
    refine py (k := 0) rfl F0 rfl HCC rfl (by omega) (wanted_none rfl) (v := Value.pointer (some ⟨pb, 0, none⟩)) (fun wr hwr => by simp only [execOp, (F0.eval 0 (by omega)).trans (show _ = Value.pointer (some ⟨pb, 0, none⟩) from by simp [upd, hs0, hs3, hs8, hs9])]; first | rfl | simp [go_sem]) fun a1 F1 => ?_
    refine py (k := 1) rfl F1 rfl HCC rfl (by omega) (wanted_none rfl) (v := Value.pointer (some ⟨pb, 0, none⟩)) (fun wr hwr => by simp only [execOp, (F1.eval 87 (by omega)).trans (show _ = Value.pointer (some ⟨pb, 0, none⟩) from by simp [upd, hs0, hs3, hs8, hs9])]; simp [go_sem]) fun a2 F2 => ?_
    refine py (k := 2) rfl F2 rfl HCC rfl (by omega) (wanted_none rfl) (v := Value.pointer (some ⟨pb, 1, none⟩)) (fun wr hwr => by simp only [execOp, (F2.eval 88 (by omega)).trans (show _ = Value.pointer (some ⟨pb, 0, none⟩) from by simp [upd, hs0, hs3, hs8, hs9])]; simp [go_sem]) fun a3 F3 => ?_
    refine py (k := 3) rfl F3 rfl HCC rfl (by omega) (wanted_none rfl) (v := Value.pointer (some ⟨rb, 0, none⟩)) (fun wr hwr => by simp only [execOp, (F3.eval 89 (by omega)).trans (show _ = Value.pointer (some ⟨pb, 1, none⟩) from by simp [upd, hs0, hs3, hs8, hs9])]; simp [go_sem, hwr.1]) fun a4 F4 => ?_
    refine py (k := 4) rfl F4 rfl HCC rfl (by omega) (wanted_none rfl) (v := Value.pointer (some ⟨bx, 2, none⟩)) (fun wr hwr => by simp only [execOp, (F4.eval 3 (by omega)).trans (show _ = Value.pointer (some ⟨bx, 0, none⟩) from by simp [upd, hs0, hs3, hs8, hs9])]; simp [go_sem]) fun a5 F5 => ?_
    refine py (k := 5) rfl F5 rfl HCC rfl (by omega) (wanted_none rfl) (v := Value.agg #[.int .i64 c.1, .int .i64 c.2]) (fun wr hwr => by simp only [execOp, (F5.eval 91 (by omega)).trans (show _ = Value.pointer (some ⟨bx, 2, none⟩) from by simp [upd, hs0, hs3, hs8, hs9])]; simp [go_sem, show wr.cell? ⟨bx, 2, none⟩ = some (.int .i64 c.1) from hwr.2.cell 2, show wr.cell? ⟨bx, 3, none⟩ = some (.int .i64 c.2) from hwr.2.cell 3]) fun a6 F6 => ?_
    refine pfork HCC ?_ ?_
    · have hA1 := HAPY.out.more (Below.drew (Below.refl Y.heap.size Y))
      have p0 : Blk ({ Y with drawn := Y.drawn + 1 } : World) bx #[.int .i64 4, .string ⟨n.toArray⟩, .int .i64 c.1, .int .i64 c.2, .int .i64 o.k, .string ⟨o.n.toArray⟩, .int .i64 o.a, .int .i64 o.b] 41 := HBXY.out
      have p1 : Blk ({ Y with drawn := Y.drawn + 1 } : World) b1 #[.int .i64 l0.k, .string ⟨l0.n.toArray⟩, .int .i64 l0.a, .int .i64 l0.b] 39 := HB1.out
      have hrW := hr3.more (Below.drew (Below.refl Y.heap.size Y))
      refine pc' (k := 6) rfl F6 rfl rfl (by omega) (wanted_none rfl) (g := 57) (args := #[Value.pointer (some ⟨rb, 0, none⟩), Value.agg #[.int .i64 c.1, .int .i64 c.2]]) (by simp only [execOp, resolve, invoke, List.map_toArray, List.map_cons, List.map_nil, (F6.eval 90 (by omega)).trans (show _ = Value.pointer (some ⟨rb, 0, none⟩) from by simp [upd, hs0, hs3, hs8, hs9]), (F6.eval 92 (by omega)).trans (show _ = Value.agg #[.int .i64 c.1, .int .i64 c.2] from by simp [upd, hs0, hs3, hs8, hs9])]; simp [go_sem, Act.eval]) (HM2.out ({ Y with drawn := Y.drawn + 1 } : World) hrW) ?_
      rintro e v2 ⟨rfl, hp2⟩
      have hA2 := hA1.setR hrW hp2
      have q02 : Blk v2 bx #[.int .i64 4, .string ⟨n.toArray⟩, .int .i64 c.1, .int .i64 c.2, .int .i64 o.k, .string ⟨o.n.toArray⟩, .int .i64 o.a, .int .i64 o.b] 41 := hp2.1.blk p0 (RA.nb hrW p0 (by decide) (by decide) (by decide))
      have q12 : Blk v2 b1 #[.int .i64 l0.k, .string ⟨l0.n.toArray⟩, .int .i64 l0.a, .int .i64 l0.b] 39 := hp2.1.blk p1 (RA.nb hrW p1 (by decide) (by decide) (by decide))
      have HC2 : (fun wz => wz.cell? ⟨pb, 1, none⟩ = some (.pointer (some ⟨rb, 0, none⟩)) ∧ Blk wz bx #[.int .i64 4, .string ⟨n.toArray⟩, .int .i64 c.1, .int .i64 c.2, .int .i64 o.k, .string ⟨o.n.toArray⟩, .int .i64 o.a, .int .i64 o.b] 41) v2 := ⟨Blk.cell hA2.1.p 1, q02⟩
      refine ⟨_, rfl, fun ax7 Fx7 => ?_⟩
      refine py (k := 7) rfl Fx7 rfl HC2 rfl (by omega) (wanted_none rfl) (v := Value.tuple #[.agg #[.int .i64 l0.k, .string ⟨l0.n.toArray⟩, .int .i64 l0.a, .int .i64 l0.b], .bool th]) (fun wr hwr => by simp only [execOp, (Fx7.eval 93 (by omega)).trans (show _ = Value.tuple #[.agg #[.int .i64 l0.k, .string ⟨l0.n.toArray⟩, .int .i64 l0.a, .int .i64 l0.b], .bool th] from by simp [upd, hs0, hs3, hs8, hs9])]; first | rfl | simp [go_sem]) fun ax8 Fx8 => ?_
      refine py (k := 8) rfl Fx8 rfl HC2 rfl (by omega) (wanted_none rfl) (v := Value.agg #[.int .i64 l0.k, .string ⟨l0.n.toArray⟩, .int .i64 l0.a, .int .i64 l0.b]) (fun wr hwr => by simp only [execOp, (Fx8.eval 86 (by omega)).trans (show _ = Value.tuple #[.agg #[.int .i64 l0.k, .string ⟨l0.n.toArray⟩, .int .i64 l0.a, .int .i64 l0.b], .bool th] from by simp [upd, hs0, hs3, hs8, hs9])]; simp [go_sem]) fun ax9 Fx9 => ?_
      refine py (k := 9) rfl Fx9 rfl HC2 rfl (by omega) (wanted_none rfl) (v := Value.bool th) (fun wr hwr => by simp only [execOp, (Fx9.eval 86 (by omega)).trans (show _ = Value.tuple #[.agg #[.int .i64 l0.k, .string ⟨l0.n.toArray⟩, .int .i64 l0.a, .int .i64 l0.b], .bool th] from by simp [upd, hs0, hs3, hs8, hs9])]; simp [go_sem]) fun ax10 Fx10 => ?_
      refine pe (k := 10) rfl Fx10 rfl HC2 rfl (by omega) (wanted_none rfl) (v := Value.pointer (some ⟨v2.heap.size, 0, none⟩)) (w1 := v2.alloc (.cells #[.int .i64 0, .string ⟨#[]⟩, .int .i64 0, .int .i64 0] 39)) (by simp only [execOp]; simp [go_sem, zero39]) fun ax11 Fx11 => ?_
      have hbz : Below v2.heap.size v2 (v2.alloc (.cells #[.int .i64 0, .string ⟨#[]⟩, .int .i64 0, .int .i64 0] 39)) := (Below.refl _ _).alloc (Nat.le_refl _) _
      have hBz : Blk (v2.alloc (.cells #[.int .i64 0, .string ⟨#[]⟩, .int .i64 0, .int .i64 0] 39)) v2.heap.size #[.int .i64 0, .string ⟨#[]⟩, .int .i64 0, .int .i64 0] 39 := heap_alloc_new v2 _
      have hA3 := hA2.1.more hbz
      have r0 := Blk.below q02 hbz (Blk.lt q02)
      have s0lt := Blk.lt q02
      have q0lt := s0lt
      have r1 := Blk.below q12 hbz (Blk.lt q12)
      have s1lt := Blk.lt q12
      have q1lt := s1lt
      have HC3 : (fun wz => wz.cell? ⟨pb, 1, none⟩ = some (.pointer (some ⟨rb, 0, none⟩)) ∧ Blk wz bx #[.int .i64 4, .string ⟨n.toArray⟩, .int .i64 c.1, .int .i64 c.2, .int .i64 o.k, .string ⟨o.n.toArray⟩, .int .i64 o.a, .int .i64 o.b] 41) (v2.alloc (.cells #[.int .i64 0, .string ⟨#[]⟩, .int .i64 0, .int .i64 0] 39)) := ⟨Blk.cell hA3.p 1, r0⟩
      obtain ⟨hc4, hBy⟩ := chg4 hBz l0
      have hA4 := hA3.setO hBz hA2.1.low hc4
      have q04 := hc4.blk r0 (r0.ne_t hBz (by decide))
      have q14 := hc4.blk r1 (fun e => by have := q1lt; omega)
      refine ps (k := 11) rfl rfl HC3 rfl (wanted_none rfl) (store4 hBz l0 rfl ((Fx11.eval 10 (by omega)).trans (show _ = Value.pointer (some ⟨v2.heap.size, 0, none⟩) from by simp [upd, hs0, hs3, hs8, hs9])) ((Fx11.eval 94 (by omega)).trans (show _ = Value.agg #[.int .i64 l0.k, .string ⟨l0.n.toArray⟩, .int .i64 l0.a, .int .i64 l0.b] from by simp [upd, hs0, hs3, hs8, hs9]))) ?_
      have HC4 : (fun wz => wz.cell? ⟨pb, 1, none⟩ = some (.pointer (some ⟨rb, 0, none⟩)) ∧ Blk wz bx #[.int .i64 4, .string ⟨n.toArray⟩, .int .i64 c.1, .int .i64 c.2, .int .i64 o.k, .string ⟨o.n.toArray⟩, .int .i64 o.a, .int .i64 o.b] 41) _ := ⟨Blk.cell hA4.1.p 1, q04⟩
      refine py (k := 12) rfl Fx11 rfl HC4 rfl (by omega) (wanted_none rfl) (v := Value.bool th) (fun wr hwr => by simp only [execOp, (Fx11.eval 95 (by omega)).trans (show _ = Value.bool th from by simp [upd, hs0, hs3, hs8, hs9])]; first | rfl | simp [go_sem]) fun aw12 Fw12 => ?_
      refine pdone (fun _ => HC4) ?_
      exact hrest2 _ _ _ _ Fw12 (show _ = Value.pointer (some ⟨pb, 0, none⟩) from by simp [upd, hs0, hs3, hs8, hs9]) (show _ = Value.pointer (some ⟨bx, 0, none⟩) from by simp [upd, hs0, hs3, hs8, hs9]) (show _ = Value.pointer (some ⟨b1, 0, none⟩) from by simp [upd, hs0, hs3, hs8, hs9]) (show _ = Value.bool th from by simp [upd, hs0, hs3, hs8, hs9]) (show _ = Value.pointer (some ⟨v2.heap.size, 0, none⟩) from by simp [upd, hs0, hs3, hs8, hs9]) (show _ = Value.bool th from by simp [upd, hs0, hs3, hs8, hs9]) hA4.1 q04 q14 hBy ((((HSY.out.trans (BK.dr S0 Y)).trans hA2.2).trans (BK.of hbz hA2.1.low)).trans hA4.2)
    · refine pe' (k := 10) rfl F6 rfl rfl (by omega) (wanted_none rfl) (v := Value.pointer (some ⟨Y.heap.size, 0, none⟩)) (w1 := (({ Y with drawn := Y.drawn + 1 } : World).alloc (.cells #[.int .i64 0, .string ⟨#[]⟩, .int .i64 0, .int .i64 0] 39))) (by simp only [execOp]; simp [go_sem, zero39]) fun ay7 Fy7 => ?_
      have hbz : Below Y.heap.size Y (({ Y with drawn := Y.drawn + 1 } : World).alloc (.cells #[.int .i64 0, .string ⟨#[]⟩, .int .i64 0, .int .i64 0] 39)) := (Below.drew (Below.refl Y.heap.size Y)).alloc (Nat.le_refl _) _
      have hBz : Blk (({ Y with drawn := Y.drawn + 1 } : World).alloc (.cells #[.int .i64 0, .string ⟨#[]⟩, .int .i64 0, .int .i64 0] 39)) Y.heap.size #[.int .i64 0, .string ⟨#[]⟩, .int .i64 0, .int .i64 0] 39 := heap_alloc_new ({ Y with drawn := Y.drawn + 1 } : World) _
      have hA1 := HAPY.out.more hbz
      have p0 : Blk (({ Y with drawn := Y.drawn + 1 } : World).alloc (.cells #[.int .i64 0, .string ⟨#[]⟩, .int .i64 0, .int .i64 0] 39)) bx #[.int .i64 4, .string ⟨n.toArray⟩, .int .i64 c.1, .int .i64 c.2, .int .i64 o.k, .string ⟨o.n.toArray⟩, .int .i64 o.a, .int .i64 o.b] 41 := Blk.below HBXY.out hbz (Blk.lt HBXY.out)
      have q0lt := Blk.lt HBXY.out
      have p1 : Blk (({ Y with drawn := Y.drawn + 1 } : World).alloc (.cells #[.int .i64 0, .string ⟨#[]⟩, .int .i64 0, .int .i64 0] 39)) b1 #[.int .i64 l0.k, .string ⟨l0.n.toArray⟩, .int .i64 l0.a, .int .i64 l0.b] 39 := Blk.below HB1.out hbz (Blk.lt HB1.out)
      have q1lt := Blk.lt HB1.out
      have HC1 : (fun wz => wz.cell? ⟨pb, 1, none⟩ = some (.pointer (some ⟨rb, 0, none⟩)) ∧ Blk wz bx #[.int .i64 4, .string ⟨n.toArray⟩, .int .i64 c.1, .int .i64 c.2, .int .i64 o.k, .string ⟨o.n.toArray⟩, .int .i64 o.a, .int .i64 o.b] 41) (({ Y with drawn := Y.drawn + 1 } : World).alloc (.cells #[.int .i64 0, .string ⟨#[]⟩, .int .i64 0, .int .i64 0] 39)) := ⟨Blk.cell hA1.p 1, p0⟩
      have hrW := hr3.more hbz
      refine pc (k := 6) rfl Fy7 rfl HC1 rfl (by omega) (wanted_none rfl) (g := 57) (args := #[Value.pointer (some ⟨rb, 0, none⟩), Value.agg #[.int .i64 c.1, .int .i64 c.2]]) (by simp only [execOp, resolve, invoke, List.map_toArray, List.map_cons, List.map_nil, (Fy7.eval 90 (by omega)).trans (show _ = Value.pointer (some ⟨rb, 0, none⟩) from by simp [upd, hs0, hs3, hs8, hs9]), (Fy7.eval 92 (by omega)).trans (show _ = Value.agg #[.int .i64 c.1, .int .i64 c.2] from by simp [upd, hs0, hs3, hs8, hs9])]; simp [go_sem, Act.eval]) (HM2.out (({ Y with drawn := Y.drawn + 1 } : World).alloc (.cells #[.int .i64 0, .string ⟨#[]⟩, .int .i64 0, .int .i64 0] 39)) hrW) ?_
      rintro e v2 ⟨rfl, hp2⟩
      have hA2 := hA1.setR hrW hp2
      have q02 : Blk v2 bx #[.int .i64 4, .string ⟨n.toArray⟩, .int .i64 c.1, .int .i64 c.2, .int .i64 o.k, .string ⟨o.n.toArray⟩, .int .i64 o.a, .int .i64 o.b] 41 := hp2.1.blk p0 (RA.nb hrW p0 (by decide) (by decide) (by decide))
      have q12 : Blk v2 b1 #[.int .i64 l0.k, .string ⟨l0.n.toArray⟩, .int .i64 l0.a, .int .i64 l0.b] 39 := hp2.1.blk p1 (RA.nb hrW p1 (by decide) (by decide) (by decide))
      have z2 : Blk v2 Y.heap.size #[.int .i64 0, .string ⟨#[]⟩, .int .i64 0, .int .i64 0] 39 := hp2.1.blk hBz (RA.nb hrW hBz (by decide) (by decide) (by decide))
      have HC2 : (fun wz => wz.cell? ⟨pb, 1, none⟩ = some (.pointer (some ⟨rb, 0, none⟩)) ∧ Blk wz bx #[.int .i64 4, .string ⟨n.toArray⟩, .int .i64 c.1, .int .i64 c.2, .int .i64 o.k, .string ⟨o.n.toArray⟩, .int .i64 o.a, .int .i64 o.b] 41) v2 := ⟨Blk.cell hA2.1.p 1, q02⟩
      refine ⟨_, rfl, fun ay8 Fy8 => ?_⟩
      refine py (k := 7) rfl Fy8 rfl HC2 rfl (by omega) (wanted_none rfl) (v := Value.tuple #[.agg #[.int .i64 l0.k, .string ⟨l0.n.toArray⟩, .int .i64 l0.a, .int .i64 l0.b], .bool th]) (fun wr hwr => by simp only [execOp, (Fy8.eval 93 (by omega)).trans (show _ = Value.tuple #[.agg #[.int .i64 l0.k, .string ⟨l0.n.toArray⟩, .int .i64 l0.a, .int .i64 l0.b], .bool th] from by simp [upd, hs0, hs3, hs8, hs9])]; first | rfl | simp [go_sem]) fun ay9 Fy9 => ?_
      refine py (k := 8) rfl Fy9 rfl HC2 rfl (by omega) (wanted_none rfl) (v := Value.agg #[.int .i64 l0.k, .string ⟨l0.n.toArray⟩, .int .i64 l0.a, .int .i64 l0.b]) (fun wr hwr => by simp only [execOp, (Fy9.eval 86 (by omega)).trans (show _ = Value.tuple #[.agg #[.int .i64 l0.k, .string ⟨l0.n.toArray⟩, .int .i64 l0.a, .int .i64 l0.b], .bool th] from by simp [upd, hs0, hs3, hs8, hs9])]; simp [go_sem]) fun ay10 Fy10 => ?_
      refine py (k := 9) rfl Fy10 rfl HC2 rfl (by omega) (wanted_none rfl) (v := Value.bool th) (fun wr hwr => by simp only [execOp, (Fy10.eval 86 (by omega)).trans (show _ = Value.tuple #[.agg #[.int .i64 l0.k, .string ⟨l0.n.toArray⟩, .int .i64 l0.a, .int .i64 l0.b], .bool th] from by simp [upd, hs0, hs3, hs8, hs9])]; simp [go_sem]) fun ay11 Fy11 => ?_
      obtain ⟨hc4, hBy⟩ := chg4 z2 l0
      have hA4 := hA2.1.setO z2 HAPY.out.low hc4
      have q04 := hc4.blk q02 (q02.ne_t z2 (by decide))
      have q14 := hc4.blk q12 (fun e => by have := q1lt; omega)
      refine ps (k := 11) rfl rfl HC2 rfl (wanted_none rfl) (store4 z2 l0 rfl ((Fy11.eval 10 (by omega)).trans (show _ = Value.pointer (some ⟨Y.heap.size, 0, none⟩) from by simp [upd, hs0, hs3, hs8, hs9])) ((Fy11.eval 94 (by omega)).trans (show _ = Value.agg #[.int .i64 l0.k, .string ⟨l0.n.toArray⟩, .int .i64 l0.a, .int .i64 l0.b] from by simp [upd, hs0, hs3, hs8, hs9]))) ?_
      have HC4 : (fun wz => wz.cell? ⟨pb, 1, none⟩ = some (.pointer (some ⟨rb, 0, none⟩)) ∧ Blk wz bx #[.int .i64 4, .string ⟨n.toArray⟩, .int .i64 c.1, .int .i64 c.2, .int .i64 o.k, .string ⟨o.n.toArray⟩, .int .i64 o.a, .int .i64 o.b] 41) _ := ⟨Blk.cell hA4.1.p 1, q04⟩
      refine py (k := 12) rfl Fy11 rfl HC4 rfl (by omega) (wanted_none rfl) (v := Value.bool th) (fun wr hwr => by simp only [execOp, (Fy11.eval 95 (by omega)).trans (show _ = Value.bool th from by simp [upd, hs0, hs3, hs8, hs9])]; first | rfl | simp [go_sem]) fun aw12 Fw12 => ?_
      refine pdone (fun _ => HC4) ?_
      exact hrest2 _ _ _ _ Fw12 (show _ = Value.pointer (some ⟨pb, 0, none⟩) from by simp [upd, hs0, hs3, hs8, hs9]) (show _ = Value.pointer (some ⟨bx, 0, none⟩) from by simp [upd, hs0, hs3, hs8, hs9]) (show _ = Value.pointer (some ⟨b1, 0, none⟩) from by simp [upd, hs0, hs3, hs8, hs9]) (show _ = Value.bool th from by simp [upd, hs0, hs3, hs8, hs9]) (show _ = Value.pointer (some ⟨Y.heap.size, 0, none⟩) from by simp [upd, hs0, hs3, hs8, hs9]) (show _ = Value.bool th from by simp [upd, hs0, hs3, hs8, hs9]) hA4.1 q04 q14 hBy (((HSY.out.trans (BK.of hbz HAPY.out.low)).trans hA2.2).trans hA4.2)

  clear hK
  refine wp_region_plan (fun wz => wz.cell? ⟨pb, 0, none⟩ = some (.pointer (some ⟨hb, 0, none⟩)) ∧ Blk wz bx #[.int .i64 4, .string ⟨n.toArray⟩, .int .i64 c.1, .int .i64 c.2, .int .i64 o.k, .string ⟨o.n.toArray⟩, .int .i64 o.a, .int .i64 o.b] 41) (fun i => i == 6 || i == 10 || i == 11 || i == 99) 99 (.one 0 (.one 1 (.one 2 (.one 3 (.one 4 (.one 5 (.two 6 10 (.one 7 (.one 8 (.one 9 (.one 10 (.one 11 (.one 12 (.done))))))) (.one 6 (.one 7 (.one 8 (.one 9 (.one 11 (.one 12 (.done)))))))))))))) (by kernel_rfl) rfl (by kernel_rfl) (by kernel_rfl) rfl (by kernel_rfl) ?_
  refine withFrG (N := 129) rfl ?_
  intro a0 f0 F0 hff
  have hs0 : f0 0 = Value.pointer (some ⟨pb, 0, none⟩) := hff 0
  have hs3 : f0 3 = Value.pointer (some ⟨bx, 0, none⟩) := hff 3
  clear hff
  have HCC : (fun wz => wz.cell? ⟨pb, 0, none⟩ = some (.pointer (some ⟨hb, 0, none⟩)) ∧ Blk wz bx #[.int .i64 4, .string ⟨n.toArray⟩, .int .i64 c.1, .int .i64 c.2, .int .i64 o.k, .string ⟨o.n.toArray⟩, .int .i64 o.a, .int .i64 o.b] 41) ({ X with drawn := X.drawn + 1 } : World) := ⟨Blk.cell (AP.p HAPX.out) 0, HBXX.out⟩
  refine py (k := 0) rfl F0 rfl HCC rfl (by omega) (wanted_none rfl) (v := Value.pointer (some ⟨pb, 0, none⟩)) (fun wr hwr => by simp only [execOp, (F0.eval 0 (by omega)).trans (show _ = Value.pointer (some ⟨pb, 0, none⟩) from by simp [upd, hs0, hs3])]; first | rfl | simp [go_sem]) fun a1 F1 => ?_
  refine py (k := 1) rfl F1 rfl HCC rfl (by omega) (wanted_none rfl) (v := Value.pointer (some ⟨pb, 0, none⟩)) (fun wr hwr => by simp only [execOp, (F1.eval 77 (by omega)).trans (show _ = Value.pointer (some ⟨pb, 0, none⟩) from by simp [upd, hs0, hs3])]; simp [go_sem]) fun a2 F2 => ?_
  refine py (k := 2) rfl F2 rfl HCC rfl (by omega) (wanted_none rfl) (v := Value.pointer (some ⟨pb, 0, none⟩)) (fun wr hwr => by simp only [execOp, (F2.eval 78 (by omega)).trans (show _ = Value.pointer (some ⟨pb, 0, none⟩) from by simp [upd, hs0, hs3])]; simp [go_sem]) fun a3 F3 => ?_
  refine py (k := 3) rfl F3 rfl HCC rfl (by omega) (wanted_none rfl) (v := Value.pointer (some ⟨hb, 0, none⟩)) (fun wr hwr => by simp only [execOp, (F3.eval 79 (by omega)).trans (show _ = Value.pointer (some ⟨pb, 0, none⟩) from by simp [upd, hs0, hs3])]; simp [go_sem, hwr.1]) fun a4 F4 => ?_
  refine py (k := 4) rfl F4 rfl HCC rfl (by omega) (wanted_none rfl) (v := Value.pointer (some ⟨bx, 2, none⟩)) (fun wr hwr => by simp only [execOp, (F4.eval 3 (by omega)).trans (show _ = Value.pointer (some ⟨bx, 0, none⟩) from by simp [upd, hs0, hs3])]; simp [go_sem]) fun a5 F5 => ?_
  refine py (k := 5) rfl F5 rfl HCC rfl (by omega) (wanted_none rfl) (v := Value.agg #[.int .i64 c.1, .int .i64 c.2]) (fun wr hwr => by simp only [execOp, (F5.eval 81 (by omega)).trans (show _ = Value.pointer (some ⟨bx, 2, none⟩) from by simp [upd, hs0, hs3])]; simp [go_sem, show wr.cell? ⟨bx, 2, none⟩ = some (.int .i64 c.1) from hwr.2.cell 2, show wr.cell? ⟨bx, 3, none⟩ = some (.int .i64 c.2) from hwr.2.cell 3]) fun a6 F6 => ?_
  refine pfork HCC ?_ ?_
  · have hA1 := HAPX.out.more (Below.drew (Below.refl X.heap.size X))
    have p0 : Blk ({ X with drawn := X.drawn + 1 } : World) bx #[.int .i64 4, .string ⟨n.toArray⟩, .int .i64 c.1, .int .i64 c.2, .int .i64 o.k, .string ⟨o.n.toArray⟩, .int .i64 o.a, .int .i64 o.b] 41 := HBXX.out
    refine pc' (k := 6) rfl F6 rfl rfl (by omega) (wanted_none rfl) (g := 18) (args := #[Value.pointer (some ⟨hb, 0, none⟩), Value.agg #[.int .i64 c.1, .int .i64 c.2]]) (by simp only [execOp, resolve, invoke, List.map_toArray, List.map_cons, List.map_nil, (F6.eval 80 (by omega)).trans (show _ = Value.pointer (some ⟨hb, 0, none⟩) from by simp [upd, hs0, hs3]), (F6.eval 82 (by omega)).trans (show _ = Value.agg #[.int .i64 c.1, .int .i64 c.2] from by simp [upd, hs0, hs3])]; simp [go_sem, Act.eval]) (HM1.out ({ X with drawn := X.drawn + 1 } : World) hA1.t) ?_
    rintro e v2 ⟨rfl, hT2, hc2⟩
    have hA2 := hA1.setW hT2 hc2
    have q02 : Blk v2 bx #[.int .i64 4, .string ⟨n.toArray⟩, .int .i64 c.1, .int .i64 c.2, .int .i64 o.k, .string ⟨o.n.toArray⟩, .int .i64 o.a, .int .i64 o.b] 41 := hc2.blk p0 (hA1.t.wm.ne_b p0)
    have HC2 : (fun wz => wz.cell? ⟨pb, 0, none⟩ = some (.pointer (some ⟨hb, 0, none⟩)) ∧ Blk wz bx #[.int .i64 4, .string ⟨n.toArray⟩, .int .i64 c.1, .int .i64 c.2, .int .i64 o.k, .string ⟨o.n.toArray⟩, .int .i64 o.a, .int .i64 o.b] 41) v2 := ⟨Blk.cell hA2.1.p 0, q02⟩
    refine ⟨_, rfl, fun ax7 Fx7 => ?_⟩
    refine py (k := 7) rfl Fx7 rfl HC2 rfl (by omega) (wanted_none rfl) (v := Value.tuple #[.agg #[.int .i64 l0.k, .string ⟨l0.n.toArray⟩, .int .i64 l0.a, .int .i64 l0.b], .bool th]) (fun wr hwr => by simp only [execOp, (Fx7.eval 83 (by omega)).trans (show _ = Value.tuple #[.agg #[.int .i64 l0.k, .string ⟨l0.n.toArray⟩, .int .i64 l0.a, .int .i64 l0.b], .bool th] from by simp [upd, hs0, hs3])]; first | rfl | simp [go_sem]) fun ax8 Fx8 => ?_
    refine py (k := 8) rfl Fx8 rfl HC2 rfl (by omega) (wanted_none rfl) (v := Value.agg #[.int .i64 l0.k, .string ⟨l0.n.toArray⟩, .int .i64 l0.a, .int .i64 l0.b]) (fun wr hwr => by simp only [execOp, (Fx8.eval 76 (by omega)).trans (show _ = Value.tuple #[.agg #[.int .i64 l0.k, .string ⟨l0.n.toArray⟩, .int .i64 l0.a, .int .i64 l0.b], .bool th] from by simp [upd, hs0, hs3])]; simp [go_sem]) fun ax9 Fx9 => ?_
    refine py (k := 9) rfl Fx9 rfl HC2 rfl (by omega) (wanted_none rfl) (v := Value.bool th) (fun wr hwr => by simp only [execOp, (Fx9.eval 76 (by omega)).trans (show _ = Value.tuple #[.agg #[.int .i64 l0.k, .string ⟨l0.n.toArray⟩, .int .i64 l0.a, .int .i64 l0.b], .bool th] from by simp [upd, hs0, hs3])]; simp [go_sem]) fun ax10 Fx10 => ?_
    refine pe (k := 10) rfl Fx10 rfl HC2 rfl (by omega) (wanted_none rfl) (v := Value.pointer (some ⟨v2.heap.size, 0, none⟩)) (w1 := v2.alloc (.cells #[.int .i64 0, .string ⟨#[]⟩, .int .i64 0, .int .i64 0] 39)) (by simp only [execOp]; simp [go_sem, zero39]) fun ax11 Fx11 => ?_
    have hbz : Below v2.heap.size v2 (v2.alloc (.cells #[.int .i64 0, .string ⟨#[]⟩, .int .i64 0, .int .i64 0] 39)) := (Below.refl _ _).alloc (Nat.le_refl _) _
    have hBz : Blk (v2.alloc (.cells #[.int .i64 0, .string ⟨#[]⟩, .int .i64 0, .int .i64 0] 39)) v2.heap.size #[.int .i64 0, .string ⟨#[]⟩, .int .i64 0, .int .i64 0] 39 := heap_alloc_new v2 _
    have hA3 := hA2.1.more hbz
    have r0 := Blk.below q02 hbz (Blk.lt q02)
    have s0lt := Blk.lt q02
    have q0lt := s0lt
    have HC3 : (fun wz => wz.cell? ⟨pb, 0, none⟩ = some (.pointer (some ⟨hb, 0, none⟩)) ∧ Blk wz bx #[.int .i64 4, .string ⟨n.toArray⟩, .int .i64 c.1, .int .i64 c.2, .int .i64 o.k, .string ⟨o.n.toArray⟩, .int .i64 o.a, .int .i64 o.b] 41) (v2.alloc (.cells #[.int .i64 0, .string ⟨#[]⟩, .int .i64 0, .int .i64 0] 39)) := ⟨Blk.cell hA3.p 0, r0⟩
    obtain ⟨hc4, hBy⟩ := chg4 hBz l0
    have hA4 := hA3.setO hBz hA2.1.low hc4
    have q04 := hc4.blk r0 (r0.ne_t hBz (by decide))
    refine ps (k := 11) rfl rfl HC3 rfl (wanted_none rfl) (store4 hBz l0 rfl ((Fx11.eval 8 (by omega)).trans (show _ = Value.pointer (some ⟨v2.heap.size, 0, none⟩) from by simp [upd, hs0, hs3])) ((Fx11.eval 84 (by omega)).trans (show _ = Value.agg #[.int .i64 l0.k, .string ⟨l0.n.toArray⟩, .int .i64 l0.a, .int .i64 l0.b] from by simp [upd, hs0, hs3]))) ?_
    have HC4 : (fun wz => wz.cell? ⟨pb, 0, none⟩ = some (.pointer (some ⟨hb, 0, none⟩)) ∧ Blk wz bx #[.int .i64 4, .string ⟨n.toArray⟩, .int .i64 c.1, .int .i64 c.2, .int .i64 o.k, .string ⟨o.n.toArray⟩, .int .i64 o.a, .int .i64 o.b] 41) _ := ⟨Blk.cell hA4.1.p 0, q04⟩
    refine py (k := 12) rfl Fx11 rfl HC4 rfl (by omega) (wanted_none rfl) (v := Value.bool th) (fun wr hwr => by simp only [execOp, (Fx11.eval 85 (by omega)).trans (show _ = Value.bool th from by simp [upd, hs0, hs3])]; first | rfl | simp [go_sem]) fun aw12 Fw12 => ?_
    refine pdone (fun _ => HC4) ?_
    exact hrest _ _ _ _ Fw12 (show _ = Value.pointer (some ⟨pb, 0, none⟩) from by simp [upd, hs0, hs3]) (show _ = Value.pointer (some ⟨bx, 0, none⟩) from by simp [upd, hs0, hs3]) (show _ = Value.pointer (some ⟨v2.heap.size, 0, none⟩) from by simp [upd, hs0, hs3]) (show _ = Value.bool th from by simp [upd, hs0, hs3]) hA4.1 q04 hBy ((((HS0.out.trans (BK.dr S0 X)).trans hA2.2).trans (BK.of hbz hA2.1.low)).trans hA4.2)
  · refine pe' (k := 10) rfl F6 rfl rfl (by omega) (wanted_none rfl) (v := Value.pointer (some ⟨X.heap.size, 0, none⟩)) (w1 := (({ X with drawn := X.drawn + 1 } : World).alloc (.cells #[.int .i64 0, .string ⟨#[]⟩, .int .i64 0, .int .i64 0] 39))) (by simp only [execOp]; simp [go_sem, zero39]) fun ay7 Fy7 => ?_
    have hbz : Below X.heap.size X (({ X with drawn := X.drawn + 1 } : World).alloc (.cells #[.int .i64 0, .string ⟨#[]⟩, .int .i64 0, .int .i64 0] 39)) := (Below.drew (Below.refl X.heap.size X)).alloc (Nat.le_refl _) _
    have hBz : Blk (({ X with drawn := X.drawn + 1 } : World).alloc (.cells #[.int .i64 0, .string ⟨#[]⟩, .int .i64 0, .int .i64 0] 39)) X.heap.size #[.int .i64 0, .string ⟨#[]⟩, .int .i64 0, .int .i64 0] 39 := heap_alloc_new ({ X with drawn := X.drawn + 1 } : World) _
    have hA1 := HAPX.out.more hbz
    have p0 : Blk (({ X with drawn := X.drawn + 1 } : World).alloc (.cells #[.int .i64 0, .string ⟨#[]⟩, .int .i64 0, .int .i64 0] 39)) bx #[.int .i64 4, .string ⟨n.toArray⟩, .int .i64 c.1, .int .i64 c.2, .int .i64 o.k, .string ⟨o.n.toArray⟩, .int .i64 o.a, .int .i64 o.b] 41 := Blk.below HBXX.out hbz (Blk.lt HBXX.out)
    have q0lt := Blk.lt HBXX.out
    have HC1 : (fun wz => wz.cell? ⟨pb, 0, none⟩ = some (.pointer (some ⟨hb, 0, none⟩)) ∧ Blk wz bx #[.int .i64 4, .string ⟨n.toArray⟩, .int .i64 c.1, .int .i64 c.2, .int .i64 o.k, .string ⟨o.n.toArray⟩, .int .i64 o.a, .int .i64 o.b] 41) (({ X with drawn := X.drawn + 1 } : World).alloc (.cells #[.int .i64 0, .string ⟨#[]⟩, .int .i64 0, .int .i64 0] 39)) := ⟨Blk.cell hA1.p 0, p0⟩
    refine pc (k := 6) rfl Fy7 rfl HC1 rfl (by omega) (wanted_none rfl) (g := 18) (args := #[Value.pointer (some ⟨hb, 0, none⟩), Value.agg #[.int .i64 c.1, .int .i64 c.2]]) (by simp only [execOp, resolve, invoke, List.map_toArray, List.map_cons, List.map_nil, (Fy7.eval 80 (by omega)).trans (show _ = Value.pointer (some ⟨hb, 0, none⟩) from by simp [upd, hs0, hs3]), (Fy7.eval 82 (by omega)).trans (show _ = Value.agg #[.int .i64 c.1, .int .i64 c.2] from by simp [upd, hs0, hs3])]; simp [go_sem, Act.eval]) (HM1.out (({ X with drawn := X.drawn + 1 } : World).alloc (.cells #[.int .i64 0, .string ⟨#[]⟩, .int .i64 0, .int .i64 0] 39)) hA1.t) ?_
    rintro e v2 ⟨rfl, hT2, hc2⟩
    have hA2 := hA1.setW hT2 hc2
    have q02 : Blk v2 bx #[.int .i64 4, .string ⟨n.toArray⟩, .int .i64 c.1, .int .i64 c.2, .int .i64 o.k, .string ⟨o.n.toArray⟩, .int .i64 o.a, .int .i64 o.b] 41 := hc2.blk p0 (hA1.t.wm.ne_b p0)
    have z2 : Blk v2 X.heap.size #[.int .i64 0, .string ⟨#[]⟩, .int .i64 0, .int .i64 0] 39 := hc2.blk hBz (hA1.t.wm.ne_b hBz)
    have HC2 : (fun wz => wz.cell? ⟨pb, 0, none⟩ = some (.pointer (some ⟨hb, 0, none⟩)) ∧ Blk wz bx #[.int .i64 4, .string ⟨n.toArray⟩, .int .i64 c.1, .int .i64 c.2, .int .i64 o.k, .string ⟨o.n.toArray⟩, .int .i64 o.a, .int .i64 o.b] 41) v2 := ⟨Blk.cell hA2.1.p 0, q02⟩
    refine ⟨_, rfl, fun ay8 Fy8 => ?_⟩
    refine py (k := 7) rfl Fy8 rfl HC2 rfl (by omega) (wanted_none rfl) (v := Value.tuple #[.agg #[.int .i64 l0.k, .string ⟨l0.n.toArray⟩, .int .i64 l0.a, .int .i64 l0.b], .bool th]) (fun wr hwr => by simp only [execOp, (Fy8.eval 83 (by omega)).trans (show _ = Value.tuple #[.agg #[.int .i64 l0.k, .string ⟨l0.n.toArray⟩, .int .i64 l0.a, .int .i64 l0.b], .bool th] from by simp [upd, hs0, hs3])]; first | rfl | simp [go_sem]) fun ay9 Fy9 => ?_
    refine py (k := 8) rfl Fy9 rfl HC2 rfl (by omega) (wanted_none rfl) (v := Value.agg #[.int .i64 l0.k, .string ⟨l0.n.toArray⟩, .int .i64 l0.a, .int .i64 l0.b]) (fun wr hwr => by simp only [execOp, (Fy9.eval 76 (by omega)).trans (show _ = Value.tuple #[.agg #[.int .i64 l0.k, .string ⟨l0.n.toArray⟩, .int .i64 l0.a, .int .i64 l0.b], .bool th] from by simp [upd, hs0, hs3])]; simp [go_sem]) fun ay10 Fy10 => ?_
    refine py (k := 9) rfl Fy10 rfl HC2 rfl (by omega) (wanted_none rfl) (v := Value.bool th) (fun wr hwr => by simp only [execOp, (Fy10.eval 76 (by omega)).trans (show _ = Value.tuple #[.agg #[.int .i64 l0.k, .string ⟨l0.n.toArray⟩, .int .i64 l0.a, .int .i64 l0.b], .bool th] from by simp [upd, hs0, hs3])]; simp [go_sem]) fun ay11 Fy11 => ?_
    obtain ⟨hc4, hBy⟩ := chg4 z2 l0
    have hA4 := hA2.1.setO z2 HAPX.out.low hc4
    have q04 := hc4.blk q02 (q02.ne_t z2 (by decide))
    refine ps (k := 11) rfl rfl HC2 rfl (wanted_none rfl) (store4 z2 l0 rfl ((Fy11.eval 8 (by omega)).trans (show _ = Value.pointer (some ⟨X.heap.size, 0, none⟩) from by simp [upd, hs0, hs3])) ((Fy11.eval 84 (by omega)).trans (show _ = Value.agg #[.int .i64 l0.k, .string ⟨l0.n.toArray⟩, .int .i64 l0.a, .int .i64 l0.b] from by simp [upd, hs0, hs3]))) ?_
    have HC4 : (fun wz => wz.cell? ⟨pb, 0, none⟩ = some (.pointer (some ⟨hb, 0, none⟩)) ∧ Blk wz bx #[.int .i64 4, .string ⟨n.toArray⟩, .int .i64 c.1, .int .i64 c.2, .int .i64 o.k, .string ⟨o.n.toArray⟩, .int .i64 o.a, .int .i64 o.b] 41) _ := ⟨Blk.cell hA4.1.p 0, q04⟩
    refine py (k := 12) rfl Fy11 rfl HC4 rfl (by omega) (wanted_none rfl) (v := Value.bool th) (fun wr hwr => by simp only [execOp, (Fy11.eval 85 (by omega)).trans (show _ = Value.bool th from by simp [upd, hs0, hs3])]; first | rfl | simp [go_sem]) fun aw12 Fw12 => ?_
    refine pdone (fun _ => HC4) ?_
    exact hrest _ _ _ _ Fw12 (show _ = Value.pointer (some ⟨pb, 0, none⟩) from by simp [upd, hs0, hs3]) (show _ = Value.pointer (some ⟨bx, 0, none⟩) from by simp [upd, hs0, hs3]) (show _ = Value.pointer (some ⟨X.heap.size, 0, none⟩) from by simp [upd, hs0, hs3]) (show _ = Value.bool th from by simp [upd, hs0, hs3]) hA4.1 q04 hBy (((HS0.out.trans (BK.of hbz HAPX.out.low)).trans hA2.2).trans hA4.2)

end Go.Proofs.Ytbjlaloofpdbfaa
