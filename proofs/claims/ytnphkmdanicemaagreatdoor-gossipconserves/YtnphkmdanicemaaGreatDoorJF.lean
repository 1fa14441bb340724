import Derived.Test.YtnphkmdanicemaaGreatDoorJE
namespace Go.Proofs.YtnphkmdanicemaaGreatDoor
open Go.RowKit Go.PlainAid Go.MapKept
set_option linter.unusedVariables false
set_option linter.unusedSimpArgs false
section
variable {L0 M : Nat} {i : PIx} {x : PVl} {w w' : World}
theorem PI.nown (h : PI L0 M i x w) {b : Nat} {D : Array Value} {T : TypeId} (hB : Blk w b D T) (hT : T ≠ 56 ∧ T ≠ 72 ∧ T ≠ 82 ∧ T ≠ 98 ∧ T ≠ 119 ∧ T ≠ 122 ∧ T ≠ 125 ∧ T ≠ 127 ∧ T ≠ 150) : ¬ ownQ i x.gv x.vv b := by
  obtain ⟨t1, t2, t3, t4, t5, t6, t7, t8, t9⟩ := hT
  intro ho
  rcases ho with e | e | e | e | e | e | e | e | e | e | e
  · exact Blk.ne_t hB h.box t1 e
  · exact Blk.ne_t hB h.gs.blk t2 e
  · exact h.gs.map.ne_b hB e
  · exact Blk.ne_t hB h.ld t3 e
  · exact Blk.ne_t hB h.vw.blk t4 e
  · exact h.vw.map.ne_b hB e
  · exact Blk.ne_t hB h.rg.blk t5 e
  · exact Blk.ne_t hB h.rl t6 e
  · exact Blk.ne_t hB h.rv.blk t7 e
  · obtain ⟨c2, k2⟩ := ownsRow_type h.rg.row e
    exact Blk.ne_t hB (show Blk w _ c2 127 from k2) t8 rfl
  · obtain ⟨c2, k2⟩ := ownsRow_type h.rv.row e
    exact Blk.ne_t hB (show Blk w _ c2 150 from k2) t9 rfl
theorem PI.below (h : PI L0 M i x w) (hc : Chg (ownQ i x.gv x.vv) w w') : Below L0 w w' :=
  ⟨hc.os, hc.tape, hc.output, hc.size, fun k hk => hc.block k (Nat.lt_trans (Nat.lt_of_lt_of_le hk h.lo.1) h.box.lt) (fun ho => absurd hk (Nat.not_lt.2 (h.lt ho).1))⟩
end
def aE1 : Ent := ⟨0, [107], 1099511627776, 0, 1, 4, 9, 0⟩
def aE2 : Ent := ⟨0, [107], 1099511627776, 0, 2, 6, 2, 0⟩
def aS0 : Led.LS := Led.LS.mk 0 0 0 1099511627776 0
def aVL2 : List Ent := (takeNext 0 3 (wx 1 3) [] [aE1]).1
def aVL3 : List Ent := (takeNext 0 3 (wx 2 3) aVL2 [aE2]).1
def aVA2 : List Ent := (rtakeNext 0 3 (wx 1 3) [] [aE1]).1
def aVA3 : List Ent := (rtakeNext 0 3 (wx 2 3) aVA2 [aE2]).1
def aL4 : GL := needN [107] 5 2 []
def aS1 : Led.LS := aS0.inext 1 0
theorem aTick : (tickR 0 [107] aL4 (knownL [107] aVL3 3) 3 (byd (lk [107] aL4).1 aS1.d) (byd (lk [107] aL4).2 aS1.u)).1 = (2, 4, 2, true) := by kernel_rfl
theorem aW1 : IntKind.i64.wrap ((lk [107] aL4).1 - aS1.d) = (lk [107] aL4).1 - aS1.d := by kernel_rfl
theorem aW2 : IntKind.i64.wrap ((lk [107] aL4).2 - aS1.u) = (lk [107] aL4).2 - aS1.u := by kernel_rfl
/-- The pair of alive, ahead of its q-th op. -/
def AP (L0 : Nat) (i : PIx) : Nat → World → Prop
  | 0, w => ∃ gv vv, PI L0 0 i ⟨0, [], [], gv, aS0, [], [], vv⟩ w
  | 1, w => ∃ gv vv, PI L0 1 i ⟨0, [], [], gv, aS1, [], [], vv⟩ w
  | 2, w => ∃ gv vv, PI L0 2 i ⟨1, [], [], gv, aS1, aVL2, aVA2, vv⟩ w
  | 3, w => ∃ gv vv, PI L0 3 i ⟨2, [], [], gv, aS1, aVL3, aVA3, vv⟩ w
  | _, w => ∃ gv vv, PI L0 4 i ⟨2, aL4, rneedN [107] 5 2 [], gv, aS1, aVL3, aVA3, vv⟩ w
def aScr : Array Value := #[.int .i64 5, .int .i64 0, .int .i64 0, .string ⟨#[]⟩, .int .i64 1, .int .i64 0, .int .i64 7, .int .i64 0, .int .i64 1, .string ⟨#[107]⟩, .int .i64 4, .int .i64 9, .int .i64 7, .int .i64 0, .int .i64 2, .string ⟨#[107]⟩, .int .i64 6, .int .i64 2, .int .i64 1, .int .i64 0, .int .i64 0, .string ⟨#[107]⟩, .int .i64 5, .int .i64 2]
def aOp : Nat → Value
  | 0 => .agg #[.int .i64 5, .int .i64 0, .int .i64 0, .string ⟨#[]⟩, .int .i64 1, .int .i64 0]
  | 1 => .agg #[.int .i64 7, .int .i64 0, .int .i64 1, .string ⟨#[107]⟩, .int .i64 4, .int .i64 9]
  | 2 => .agg #[.int .i64 7, .int .i64 0, .int .i64 2, .string ⟨#[107]⟩, .int .i64 6, .int .i64 2]
  | _ => .agg #[.int .i64 1, .int .i64 0, .int .i64 0, .string ⟨#[107]⟩, .int .i64 5, .int .i64 2]
/-- One op of alive. -/
theorem aPlay {S : Led.Sens} {Ls L0 : Nat} {i : PIx} (hme : i.me = 0) (hN : i.N = 3) (q : Nat) (hq : q < 4) (w : World) (h : AP L0 i q w) (hS : Led.Sen S Ls w) (hL : Ls ≤ L0) {sb : Nat} (hB : Blk w sb aScr 48) :
    Calls Tryz.prog 13 #[.pointer (some ⟨i.pb, 0, none⟩), aOp q] w fun e w' => e = .returned (.bool true) ∧ AP L0 i (q + 1) w' ∧ Below L0 w w' ∧ Blk w' sb aScr 48 := by
  have hT : (48 : TypeId) ≠ 56 ∧ (48 : TypeId) ≠ 72 ∧ (48 : TypeId) ≠ 82 ∧ (48 : TypeId) ≠ 98 ∧ (48 : TypeId) ≠ 119 ∧ (48 : TypeId) ≠ 122 ∧ (48 : TypeId) ≠ 125 ∧ (48 : TypeId) ≠ 127 ∧ (48 : TypeId) ≠ 150 := by decide
  have hnc : newCode i.me i.N = 0 := by rw [hme, hN]; decide
  match q, hq, h with
  | 0, _, h =>
    obtain ⟨gv, vv, h⟩ := h
    refine Calls.mono (played_5 5 0 0 [] 1 0 w h hS hL (by decide) (by decide) rfl) ?_
    rintro e w' ⟨rfl, hP, hn⟩
    exact ⟨rfl, ⟨gv, vv, hP⟩, h.below hn.chg, hn.chg.blk hB (h.nown hB hT)⟩
  | 1, _, h =>
    obtain ⟨gv, vv, h⟩ := h
    have := played_7 7 0 1 [107] 4 9 w h (by decide) hnc (by decide) (by decide) (by decide) (by decide) (by rw [hme, hN]; decide) rfl
    rw [hme, hN] at this
    refine Calls.mono this ?_
    rintro e w' ⟨rfl, vv', hP, hn⟩
    exact ⟨rfl, ⟨gv, vv', hP⟩, h.below hn.chg, hn.chg.blk hB (h.nown hB hT)⟩
  | 2, _, h =>
    obtain ⟨gv, vv, h⟩ := h
    have := played_7 7 0 2 [107] 6 2 w h (by decide) hnc (by decide) (by decide) (by decide) (by decide) (by rw [hme, hN]; decide) rfl
    rw [hme, hN] at this
    refine Calls.mono this ?_
    rintro e w' ⟨rfl, vv', hP, hn⟩
    exact ⟨rfl, ⟨gv, vv', hP⟩, h.below hn.chg, hn.chg.blk hB (h.nown hB hT)⟩
  | 3, _, h =>
    obtain ⟨gv, vv, h⟩ := h
    refine Calls.mono (played_1 1 0 0 [107] 5 2 w h (by decide) (by decide) rfl) ?_
    rintro e w' ⟨rfl, gv', hP, hn⟩
    exact ⟨rfl, ⟨gv', vv, hP⟩, h.below hn.chg, hn.chg.blk hB (h.nown hB hT)⟩
end Go.Proofs.YtnphkmdanicemaaGreatDoor
namespace Go.Proofs.YtnphkmdanicemaaGreatDoor
open Go.RowKit Go.PlainAid Go.MapKept
set_option linter.unusedVariables false
set_option linter.unusedSimpArgs false
theorem scr_at (q : Nat) (hq : q < 4) : (aScr.extract (q * 6) (q * 6 + 6)).size = 6 := by
  match q, hq with
  | 0, _ => rfl
  | 1, _ => rfl
  | 2, _ => rfl
  | 3, _ => rfl
set_option maxRecDepth 100000 in
set_option maxHeartbeats 6400000 in
theorem alive_yes {S : Led.Sens} {Ls : Nat} (w : World) (hS : Led.Sen S Ls w) (hL : Ls ≤ w.heap.size) :
    Calls Tryz.prog 5 #[] w fun e w' => e = .returned (.bool true) ∧ Below w.heap.size w w' := by
  have HMD : Hid _ := made_yes 0 3 w (by decide)
  go_enter Tryz.func5, Tryz.ntmps5
  go_wp2_with fail
  refine Calls.mono HMD.out ?_
  rintro e9 w1 ⟨i, x, rfl, hme, hN, e1, e2, e3, e4, e5, e6, hP, hb⟩
  clear HMD
  obtain ⟨ver, L, A, gv, s, VL, VA, vv⟩ := x
  simp only at e1 e2 e3 e4 e5 e6
  subst e1 e2 e3 e4 e5 e6
  obtain ⟨sb, hsb⟩ : ∃ sb, sb = w1.heap.size := ⟨_, rfl⟩
  obtain ⟨w2, hw2⟩ : ∃ w2, w2 = w1.alloc (.cells #[.int .i64 5, .int .i64 0, .int .i64 0, .string ⟨#[]⟩, .int .i64 1, .int .i64 0, .int .i64 7, .int .i64 0, .int .i64 1, .string ⟨#[107]⟩, .int .i64 4, .int .i64 9, .int .i64 7, .int .i64 0, .int .i64 2, .string ⟨#[107]⟩, .int .i64 6, .int .i64 2, .int .i64 1, .int .i64 0, .int .i64 0, .string ⟨#[107]⟩, .int .i64 5, .int .i64 2] 48) := ⟨_, rfl⟩
  have hb2 : Below w1.heap.size w1 w2 := by rw [hw2]; exact (Below.refl _ _).alloc (Nat.le_refl _) _
  have HP0 : Hid (AP w.heap.size i 0 w2) := show AP w.heap.size i 0 w2 from ⟨gv, vv, hP.more hb2⟩
  have HB0 : Hid (Blk w2 sb aScr 48) := show Blk w2 sb aScr 48 from by rw [hw2, hsb]; exact heap_alloc_new w1 _
  have HW0 : Hid (Below w.heap.size w w2) := hb.trans (hb2.mono hb.size)
  have HS : Hid (Led.Sen S Ls w) := hS
  have HME : Hid (i.me = 0) := hme
  have HNN : Hid (i.N = 3) := hN
  have HPL : Hid (∀ q, q < 4 → ∀ W, AP w.heap.size i q W → Led.Sen S Ls W → Blk W sb aScr 48 → Calls Tryz.prog 13 #[.pointer (some ⟨i.pb, 0, none⟩), aOp q] W fun e w' => e = .returned (.bool true) ∧ AP w.heap.size i (q + 1) w' ∧ Below w.heap.size W w' ∧ Blk w' sb aScr 48) := fun q hq W h1 h2 h3 => aPlay hme hN q hq W h1 h2 hL h3
  have HLS : Hid (Ls ≤ w.heap.size) := hL
  clear hP hb hb2 hS hme hN hL
  go_upto_region 5 with fail
  rw [← hsb, ← hw2]
  clear hsb hw2
  go_wp2_with fail
  go_loopw [4] (fun j wr => ∃ q : Nat, q ≤ 4 ∧ j = .int .i64 q ∧ AP w.heap.size i q wr ∧ Blk wr sb aScr 48 ∧ Below w.heap.size w wr) (fun j _ => 4 - (intOf j).toNat)
  case atStart => exact ⟨0, Nat.zero_le _, rfl, HP0.out, HB0.out, HW0.out⟩
  case round =>
    obtain ⟨q, hq, rfl, hA, hB, hbw⟩ := hrel
    have HA : Hid (AP w.heap.size i q wr) := hA
    have HB : Hid (Blk wr sb aScr 48) := hB
    have HBW : Hid (Below w.heap.size w wr) := hbw
    clear hA hB hbw HP0 HB0 HW0
    by_cases hlt : q < 4
    · have hcs : q = 0 ∨ q = 1 ∨ q = 2 ∨ q = 3 := by omega
      clear hlt hq
      rcases hcs with rfl | rfl | rfl | rfl
      · have HC : Hid _ := HPL.out 0 (by decide) wr HA.out (HS.out.below (HBW.out.mono HLS.out)) HB.out
        have c0 : wr.cell? ⟨sb, 0, none⟩ = some (.int .i64 5) := HB.out.cell 0
        have c1 : wr.cell? ⟨sb, 1, none⟩ = some (.int .i64 0) := HB.out.cell 1
        have c2 : wr.cell? ⟨sb, 2, none⟩ = some (.int .i64 0) := HB.out.cell 2
        have c3 : wr.cell? ⟨sb, 3, none⟩ = some (.string ⟨#[]⟩) := HB.out.cell 3
        have c4 : wr.cell? ⟨sb, 4, none⟩ = some (.int .i64 1) := HB.out.cell 4
        have c5 : wr.cell? ⟨sb, 5, none⟩ = some (.int .i64 0) := HB.out.cell 5
        go_wp2_with fail
        refine Calls.mono HC.out ?_
        rintro e9 w3 ⟨rfl, hA3, hb3, hB3⟩
        have HA3 : Hid (AP w.heap.size i (0 + 1) w3) := hA3
        have HB3 : Hid (Blk w3 sb aScr 48) := hB3
        have HW3 : Hid (Below w.heap.size w w3) := HBW.out.trans hb3
        clear hA3 hb3 hB3 HC c0 c1 c2 c3 c4 c5
        go_wp2_with fail
        go_roundw
        case rel => exact ⟨0 + 1, by omega, by go_num, HA3.out, HB3.out, HW3.out⟩
        case measure => simp [intOf]
      · have HC : Hid _ := HPL.out 1 (by decide) wr HA.out (HS.out.below (HBW.out.mono HLS.out)) HB.out
        have c0 : wr.cell? ⟨sb, 6, none⟩ = some (.int .i64 7) := HB.out.cell 6
        have c1 : wr.cell? ⟨sb, 7, none⟩ = some (.int .i64 0) := HB.out.cell 7
        have c2 : wr.cell? ⟨sb, 8, none⟩ = some (.int .i64 1) := HB.out.cell 8
        have c3 : wr.cell? ⟨sb, 9, none⟩ = some (.string ⟨#[107]⟩) := HB.out.cell 9
        have c4 : wr.cell? ⟨sb, 10, none⟩ = some (.int .i64 4) := HB.out.cell 10
        have c5 : wr.cell? ⟨sb, 11, none⟩ = some (.int .i64 9) := HB.out.cell 11
        go_wp2_with fail
        refine Calls.mono HC.out ?_
        rintro e9 w3 ⟨rfl, hA3, hb3, hB3⟩
        have HA3 : Hid (AP w.heap.size i (1 + 1) w3) := hA3
        have HB3 : Hid (Blk w3 sb aScr 48) := hB3
        have HW3 : Hid (Below w.heap.size w w3) := HBW.out.trans hb3
        clear hA3 hb3 hB3 HC c0 c1 c2 c3 c4 c5
        go_wp2_with fail
        go_roundw
        case rel => exact ⟨1 + 1, by omega, by go_num, HA3.out, HB3.out, HW3.out⟩
        case measure => simp [intOf]
      · have HC : Hid _ := HPL.out 2 (by decide) wr HA.out (HS.out.below (HBW.out.mono HLS.out)) HB.out
        have c0 : wr.cell? ⟨sb, 12, none⟩ = some (.int .i64 7) := HB.out.cell 12
        have c1 : wr.cell? ⟨sb, 13, none⟩ = some (.int .i64 0) := HB.out.cell 13
        have c2 : wr.cell? ⟨sb, 14, none⟩ = some (.int .i64 2) := HB.out.cell 14
        have c3 : wr.cell? ⟨sb, 15, none⟩ = some (.string ⟨#[107]⟩) := HB.out.cell 15
        have c4 : wr.cell? ⟨sb, 16, none⟩ = some (.int .i64 6) := HB.out.cell 16
        have c5 : wr.cell? ⟨sb, 17, none⟩ = some (.int .i64 2) := HB.out.cell 17
        go_wp2_with fail
        refine Calls.mono HC.out ?_
        rintro e9 w3 ⟨rfl, hA3, hb3, hB3⟩
        have HA3 : Hid (AP w.heap.size i (2 + 1) w3) := hA3
        have HB3 : Hid (Blk w3 sb aScr 48) := hB3
        have HW3 : Hid (Below w.heap.size w w3) := HBW.out.trans hb3
        clear hA3 hb3 hB3 HC c0 c1 c2 c3 c4 c5
        go_wp2_with fail
        go_roundw
        case rel => exact ⟨2 + 1, by omega, by go_num, HA3.out, HB3.out, HW3.out⟩
        case measure => simp [intOf]
      · have HC : Hid _ := HPL.out 3 (by decide) wr HA.out (HS.out.below (HBW.out.mono HLS.out)) HB.out
        have c0 : wr.cell? ⟨sb, 18, none⟩ = some (.int .i64 1) := HB.out.cell 18
        have c1 : wr.cell? ⟨sb, 19, none⟩ = some (.int .i64 0) := HB.out.cell 19
        have c2 : wr.cell? ⟨sb, 20, none⟩ = some (.int .i64 0) := HB.out.cell 20
        have c3 : wr.cell? ⟨sb, 21, none⟩ = some (.string ⟨#[107]⟩) := HB.out.cell 21
        have c4 : wr.cell? ⟨sb, 22, none⟩ = some (.int .i64 5) := HB.out.cell 22
        have c5 : wr.cell? ⟨sb, 23, none⟩ = some (.int .i64 2) := HB.out.cell 23
        go_wp2_with fail
        refine Calls.mono HC.out ?_
        rintro e9 w3 ⟨rfl, hA3, hb3, hB3⟩
        have HA3 : Hid (AP w.heap.size i (3 + 1) w3) := hA3
        have HB3 : Hid (Blk w3 sb aScr 48) := hB3
        have HW3 : Hid (Below w.heap.size w w3) := HBW.out.trans hb3
        clear hA3 hb3 hB3 HC c0 c1 c2 c3 c4 c5
        go_wp2_with fail
        go_roundw
        case rel => exact ⟨3 + 1, by omega, by go_num, HA3.out, HB3.out, HW3.out⟩
        case measure => simp [intOf]
    · obtain rfl : q = 4 := by omega
      clear hlt hq
      obtain ⟨gv', vv', hPV⟩ := HA.out
      obtain ⟨V, hV⟩ : ∃ V, V = wr := ⟨_, rfl⟩
      subst hV
      have HPV : Hid (PI w.heap.size 4 i ⟨2, aL4, rneedN [107] 5 2 [], gv', aS1, aVL3, aVA3, vv'⟩ V) := hPV
      have HBV : Hid (Below w.heap.size w V) := HBW.out
      have HNB : Hid (∀ b, b < V.heap.size → V.heap.size ≤ b → False) := fun b h1 h2 => absurd h1 (Nat.not_lt.2 h2)
      have HTI : Hid (∀ W, Below V.heap.size V W → Calls Tryz.prog 14 #[.pointer (some ⟨i.gb, 0, none⟩), .string ⟨#[107]⟩, .pointer (some ⟨i.lb, 0, none⟩), .pointer (some ⟨i.hb, 0, none⟩)] W fun e w' => e = .returned (.tuple #[.int .i64 2, .agg #[.int .i64 4, .int .i64 2], .bool true]) ∧ Chg (fun b => b = i.mb) W w') := fun W hbW => by
        have hq := HPV.out.more hbW
        have hme0 : i.me = 0 := HME.out
        have hN3 : i.N = 3 := HNN.out
        have := tick_any [107] W hq.gs hq.ld hq.vw (by rw [hme0]; decide) (by rw [hN3]; decide) aW1 aW2
        simp only [hme0, hN3] at this
        rw [aTick] at this
        exact Calls.mono this (fun e w' h => ⟨h.1, h.2.2⟩)
      clear hPV HA HB HBW HPL HS
      go_wp2_with fail
      rename_i K hK
      try rw [show ∀ a : Act, a.put none undef = a from fun _ => rfl]
      have hrest : ∀ (a : Act) (f' : Nat → Value) (Y : World) (bx : Nat), Fr 68 a f' → f' 5 = Value.int .i64 2 → f' 6 = Value.pointer (some ⟨bx, 0, none⟩) → f' 7 = Value.bool true → Blk Y bx #[.int .i64 4, .int .i64 2] 37 → Below w.heap.size w Y → K a Y := by
        intro a f' Y bx F' k5 k6 k7 hBx hCx
        refine hK _ _ ?_
        rw [F'.lit, show ((List.range 68).map f').toArray = #[f' 0, f' 1, f' 2, f' 3, f' 4, f' 5, f' 6, f' 7, f' 8, f' 9, f' 10, f' 11, f' 12, f' 13, f' 14, f' 15, f' 16, f' 17, f' 18, f' 19, f' 20, f' 21, f' 22, f' 23, f' 24, f' 25, f' 26, f' 27, f' 28, f' 29, f' 30, f' 31, f' 32, f' 33, f' 34, f' 35, f' 36, f' 37, f' 38, f' 39, f' 40, f' 41, f' 42, f' 43, f' 44, f' 45, f' 46, f' 47, f' 48, f' 49, f' 50, f' 51, f' 52, f' 53, f' 54, f' 55, f' 56, f' 57, f' 58, f' 59, f' 60, f' 61, f' 62, f' 63, f' 64, f' 65, f' 66, f' 67] from rfl, k5, k6, k7]
        have b0 : Y.cell? ⟨bx, 0, none⟩ = some (.int .i64 4) := hBx.cell 0
        have b1 : Y.cell? ⟨bx, 1, none⟩ = some (.int .i64 2) := hBx.cell 1
        have HCX : Hid (Below w.heap.size w Y) := hCx
        have HSM : Hid _ := Led.same_any 4 2 4 2 Y
        clear hK F' k5 k6 k7 hBx hCx
        go_wp2_with fail
        refine Calls.mono HSM.out ?_
        rintro e9 Y2 ⟨rfl, hb9⟩
        have HF : Hid (Below w.heap.size w Y2) := HCX.out.trans (hb9.mono HCX.out.size)
        clear hb9 b0 b1 HSM
        go_wp2_with fail
        go_ret
        exact ⟨rfl, HF.out⟩
      refine wp_region_plan (fun wq => wq.cell? ⟨i.pb, 3, none⟩ = some (.pointer (some ⟨i.gb, 0, none⟩)) ∧ wq.cell? ⟨i.pb, 4, none⟩ = some (.pointer (some ⟨i.lb, 0, none⟩)) ∧ wq.cell? ⟨i.pb, 5, none⟩ = some (.pointer (some ⟨i.hb, 0, none⟩))) (fun i => i == 12 || i == 17 || i == 19 || i == 99) 99 (.one 0 (.one 1 (.one 2 (.one 3 (.one 4 (.one 5 (.one 6 (.one 7 (.one 8 (.one 9 (.one 10 (.one 11 (.two 12 17 (.one 13 (.one 14 (.one 15 (.one 16 (.one 17 (.one 18 (.one 19 (.one 20 (.done))))))))) (.one 12 (.one 13 (.one 14 (.one 15 (.one 16 (.one 18 (.one 19 (.one 20 (.done)))))))))))))))))))))) (by kernel_rfl) rfl (by kernel_rfl) (by kernel_rfl) rfl (by kernel_rfl) ?_
      refine withFrG (N := 68) rfl ?_
      intro a0 f0 F0 hff
      have hs1 : f0 1 = Value.pointer (some ⟨i.pb, 0, none⟩) := hff 1
      clear hff
      have hC0 : (fun wq => wq.cell? ⟨i.pb, 3, none⟩ = some (.pointer (some ⟨i.gb, 0, none⟩)) ∧ wq.cell? ⟨i.pb, 4, none⟩ = some (.pointer (some ⟨i.lb, 0, none⟩)) ∧ wq.cell? ⟨i.pb, 5, none⟩ = some (.pointer (some ⟨i.hb, 0, none⟩))) ({ V with drawn := V.drawn + 1 } : World) := ⟨HPV.out.box.cell 3, HPV.out.box.cell 4, HPV.out.box.cell 5⟩
      refine py (k := 0) rfl F0 rfl hC0 rfl (by omega) (wanted_none rfl) (v := Value.pointer (some ⟨i.pb, 0, none⟩)) (fun wr hwr => by simp only [execOp, (F0.eval 1 (by omega)).trans (show _ = Value.pointer (some ⟨i.pb, 0, none⟩) from by simp [upd, hs1])]; first | rfl | simp [go_sem]) fun a1 F1 => ?_
      refine py (k := 1) rfl F1 rfl hC0 rfl (by omega) (wanted_none rfl) (v := Value.pointer (some ⟨i.pb, 0, none⟩)) (fun wr hwr => by simp only [execOp, (F1.eval 42 (by omega)).trans (show _ = Value.pointer (some ⟨i.pb, 0, none⟩) from by simp [upd, hs1])]; simp [go_sem]) fun a2 F2 => ?_
      refine py (k := 2) rfl F2 rfl hC0 rfl (by omega) (wanted_none rfl) (v := Value.pointer (some ⟨i.pb, 3, none⟩)) (fun wr hwr => by simp only [execOp, (F2.eval 43 (by omega)).trans (show _ = Value.pointer (some ⟨i.pb, 0, none⟩) from by simp [upd, hs1])]; simp [go_sem]) fun a3 F3 => ?_
      refine py (k := 3) rfl F3 rfl hC0 rfl (by omega) (wanted_none rfl) (v := Value.pointer (some ⟨i.gb, 0, none⟩)) (fun wr hwr => by simp only [execOp, (F3.eval 44 (by omega)).trans (show _ = Value.pointer (some ⟨i.pb, 3, none⟩) from by simp [upd, hs1])]; simp [go_sem, hwr.1]) fun a4 F4 => ?_
      refine py (k := 4) rfl F4 rfl hC0 rfl (by omega) (wanted_none rfl) (v := Value.pointer (some ⟨i.pb, 0, none⟩)) (fun wr hwr => by simp only [execOp, (F4.eval 1 (by omega)).trans (show _ = Value.pointer (some ⟨i.pb, 0, none⟩) from by simp [upd, hs1])]; first | rfl | simp [go_sem]) fun a5 F5 => ?_
      refine py (k := 5) rfl F5 rfl hC0 rfl (by omega) (wanted_none rfl) (v := Value.pointer (some ⟨i.pb, 0, none⟩)) (fun wr hwr => by simp only [execOp, (F5.eval 46 (by omega)).trans (show _ = Value.pointer (some ⟨i.pb, 0, none⟩) from by simp [upd, hs1])]; simp [go_sem]) fun a6 F6 => ?_
      refine py (k := 6) rfl F6 rfl hC0 rfl (by omega) (wanted_none rfl) (v := Value.pointer (some ⟨i.pb, 4, none⟩)) (fun wr hwr => by simp only [execOp, (F6.eval 47 (by omega)).trans (show _ = Value.pointer (some ⟨i.pb, 0, none⟩) from by simp [upd, hs1])]; simp [go_sem]) fun a7 F7 => ?_
      refine py (k := 7) rfl F7 rfl hC0 rfl (by omega) (wanted_none rfl) (v := Value.pointer (some ⟨i.lb, 0, none⟩)) (fun wr hwr => by simp only [execOp, (F7.eval 48 (by omega)).trans (show _ = Value.pointer (some ⟨i.pb, 4, none⟩) from by simp [upd, hs1])]; simp [go_sem, hwr.2.1]) fun a8 F8 => ?_
      refine py (k := 8) rfl F8 rfl hC0 rfl (by omega) (wanted_none rfl) (v := Value.pointer (some ⟨i.pb, 0, none⟩)) (fun wr hwr => by simp only [execOp, (F8.eval 1 (by omega)).trans (show _ = Value.pointer (some ⟨i.pb, 0, none⟩) from by simp [upd, hs1])]; first | rfl | simp [go_sem]) fun a9 F9 => ?_
      refine py (k := 9) rfl F9 rfl hC0 rfl (by omega) (wanted_none rfl) (v := Value.pointer (some ⟨i.pb, 0, none⟩)) (fun wr hwr => by simp only [execOp, (F9.eval 50 (by omega)).trans (show _ = Value.pointer (some ⟨i.pb, 0, none⟩) from by simp [upd, hs1])]; simp [go_sem]) fun a10 F10 => ?_
      refine py (k := 10) rfl F10 rfl hC0 rfl (by omega) (wanted_none rfl) (v := Value.pointer (some ⟨i.pb, 5, none⟩)) (fun wr hwr => by simp only [execOp, (F10.eval 51 (by omega)).trans (show _ = Value.pointer (some ⟨i.pb, 0, none⟩) from by simp [upd, hs1])]; simp [go_sem]) fun a11 F11 => ?_
      refine py (k := 11) rfl F11 rfl hC0 rfl (by omega) (wanted_none rfl) (v := Value.pointer (some ⟨i.hb, 0, none⟩)) (fun wr hwr => by simp only [execOp, (F11.eval 52 (by omega)).trans (show _ = Value.pointer (some ⟨i.pb, 5, none⟩) from by simp [upd, hs1])]; simp [go_sem, hwr.2.2]) fun a12 F12 => ?_
      refine pfork hC0 ?_ ?_
      · refine pc' (k := 12) rfl F12 rfl rfl (by omega) (wanted_none rfl) (g := 14) (args := #[Value.pointer (some ⟨i.gb, 0, none⟩), Value.string ⟨#[107]⟩, Value.pointer (some ⟨i.lb, 0, none⟩), Value.pointer (some ⟨i.hb, 0, none⟩)]) (by simp only [execOp, resolve, invoke, List.map_toArray, List.map_cons, List.map_nil, (F12.eval 45 (by omega)).trans (show _ = Value.pointer (some ⟨i.gb, 0, none⟩) from by simp [upd, hs1]), (F12.eval 49 (by omega)).trans (show _ = Value.pointer (some ⟨i.lb, 0, none⟩) from by simp [upd, hs1]), (F12.eval 53 (by omega)).trans (show _ = Value.pointer (some ⟨i.hb, 0, none⟩) from by simp [upd, hs1])]; simp [go_sem, Act.eval]) (HTI.out ({ V with drawn := V.drawn + 1 } : World) (Below.drew (Below.refl V.heap.size V))) ?_
        rintro e9 V1 ⟨rfl, hc9⟩
        refine ⟨_, rfl, fun aA1 FA1 => ?_⟩
        have hpD : Blk ({ V with drawn := V.drawn + 1 } : World) i.pb (pbox i 2) 56 := (HPV.out.more (Below.drew (Below.refl V.heap.size V))).box
        have hpC := hc9.blk hpD ((HPV.out.more (Below.drew (Below.refl V.heap.size V))).gs.map.ne_b hpD)
        have hCa : (fun wq => wq.cell? ⟨i.pb, 3, none⟩ = some (.pointer (some ⟨i.gb, 0, none⟩)) ∧ wq.cell? ⟨i.pb, 4, none⟩ = some (.pointer (some ⟨i.lb, 0, none⟩)) ∧ wq.cell? ⟨i.pb, 5, none⟩ = some (.pointer (some ⟨i.hb, 0, none⟩))) V1 := ⟨hpC.cell 3, hpC.cell 4, hpC.cell 5⟩
        have hbA : Below w.heap.size w V1 := (HBV.out.trans ((Below.mono (Below.drew (Below.refl V.heap.size V)) HBV.out.size))).trans ⟨hc9.os, hc9.tape, hc9.output, hc9.size, fun k hk => hc9.block k (Nat.lt_of_lt_of_le hk (HBV.out.trans ((Below.mono (Below.drew (Below.refl V.heap.size V)) HBV.out.size))).size) (fun e => by have := HPV.out.lo.2.2.1; omega)⟩
        refine py (k := 13) rfl FA1 rfl hCa rfl (by omega) (wanted_none rfl) (v := Value.tuple #[.int .i64 2, .agg #[.int .i64 4, .int .i64 2], .bool true]) (fun wr hwr => by simp only [execOp, (FA1.eval 54 (by omega)).trans (show _ = Value.tuple #[.int .i64 2, .agg #[.int .i64 4, .int .i64 2], .bool true] from by simp [upd, hs1])]; first | rfl | simp [go_sem]) fun aA2 FA2 => ?_
        refine py (k := 14) rfl FA2 rfl hCa rfl (by omega) (wanted_none rfl) (v := Value.int .i64 2) (fun wr hwr => by simp only [execOp, (FA2.eval 41 (by omega)).trans (show _ = Value.tuple #[.int .i64 2, .agg #[.int .i64 4, .int .i64 2], .bool true] from by simp [upd, hs1])]; simp [go_sem]) fun aA3 FA3 => ?_
        refine py (k := 15) rfl FA3 rfl hCa rfl (by omega) (wanted_none rfl) (v := Value.agg #[.int .i64 4, .int .i64 2]) (fun wr hwr => by simp only [execOp, (FA3.eval 41 (by omega)).trans (show _ = Value.tuple #[.int .i64 2, .agg #[.int .i64 4, .int .i64 2], .bool true] from by simp [upd, hs1])]; simp [go_sem]) fun aA4 FA4 => ?_
        refine py (k := 16) rfl FA4 rfl hCa rfl (by omega) (wanted_none rfl) (v := Value.bool true) (fun wr hwr => by simp only [execOp, (FA4.eval 41 (by omega)).trans (show _ = Value.tuple #[.int .i64 2, .agg #[.int .i64 4, .int .i64 2], .bool true] from by simp [upd, hs1])]; simp [go_sem]) fun aA5 FA5 => ?_
        refine pe (k := 17) rfl FA5 rfl hCa rfl (by omega) (wanted_none rfl) (v := Value.pointer (some ⟨V1.heap.size, 0, none⟩)) (w1 := V1.alloc (.cells #[.int .i64 0, .int .i64 0] 37)) (by simp only [execOp]; simp [go_sem, zero36]) fun aA6 FA6 => ?_
        have hBz : Blk (V1.alloc (.cells #[.int .i64 0, .int .i64 0] 37)) V1.heap.size #[.int .i64 0, .int .i64 0] 37 := heap_alloc_new V1 _
        have hbz : Below V1.heap.size V1 (V1.alloc (.cells #[.int .i64 0, .int .i64 0] 37)) := (Below.refl _ _).alloc (Nat.le_refl _) _
        have hCz : (fun wq => wq.cell? ⟨i.pb, 3, none⟩ = some (.pointer (some ⟨i.gb, 0, none⟩)) ∧ wq.cell? ⟨i.pb, 4, none⟩ = some (.pointer (some ⟨i.lb, 0, none⟩)) ∧ wq.cell? ⟨i.pb, 5, none⟩ = some (.pointer (some ⟨i.hb, 0, none⟩))) (V1.alloc (.cells #[.int .i64 0, .int .i64 0] 37)) := ⟨cell_below hbz hCa.1, cell_below hbz hCa.2.1, cell_below hbz hCa.2.2⟩
        have hlz : w.heap.size ≤ V1.heap.size := hbA.size
        refine py (k := 18) rfl FA6 rfl hCz rfl (by omega) (wanted_none rfl) (v := Value.int .i64 2) (fun wr hwr => by simp only [execOp, (FA6.eval 55 (by omega)).trans (show _ = Value.int .i64 2 from by simp [upd, hs1])]; first | rfl | simp [go_sem]) fun aA7 FA7 => ?_
        obtain ⟨Y, hY⟩ : ∃ Y, Y = ((World.setCell (V1.alloc (.cells #[.int .i64 0, .int .i64 0] 37)) ⟨V1.heap.size, 0, none⟩ (.int .i64 4)).setCell ⟨V1.heap.size, 1, none⟩ (.int .i64 2)) := ⟨_, rfl⟩
        have hBy : Blk Y V1.heap.size #[.int .i64 4, .int .i64 2] 37 := by rw [hY]; exact (Blk.set hBz 0 (.int .i64 4)).set 1 (.int .i64 2)
        have hCy : Below w.heap.size w Y := by rw [hY]; exact set2_below (hbA.alloc hbA.size _) hlz _ _
        have hc2 : Chg (fun k => k = V1.heap.size) (V1.alloc (.cells #[.int .i64 0, .int .i64 0] 37)) Y := by rw [hY]; exact (setCell_chg _ _ 0 _).trans (setCell_chg _ _ 1 _) (fun _ _ e => e)
        have hq : ∀ j v, World.cell? (V1.alloc (.cells #[.int .i64 0, .int .i64 0] 37)) ⟨i.pb, j, none⟩ = some v → Y.cell? ⟨i.pb, j, none⟩ = some v := fun j v e => (World.cell?_of_block (w := (V1.alloc (.cells #[.int .i64 0, .int .i64 0] 37))) (hc2.block _ (World.block_lt_of_cell? _ _ e) (fun e2 => HNB.out i.pb HPV.out.box.lt (Nat.le_trans (hc9.size) (Nat.le_of_eq (Eq.symm e2)))))).trans e
        have hCE : (fun wq => wq.cell? ⟨i.pb, 3, none⟩ = some (.pointer (some ⟨i.gb, 0, none⟩)) ∧ wq.cell? ⟨i.pb, 4, none⟩ = some (.pointer (some ⟨i.lb, 0, none⟩)) ∧ wq.cell? ⟨i.pb, 5, none⟩ = some (.pointer (some ⟨i.hb, 0, none⟩))) Y := ⟨hq 3 _ hCz.1, hq 4 _ hCz.2.1, hq 5 _ hCz.2.2⟩
        refine ps (k := 19) rfl rfl hCz rfl (wanted_none rfl) (w1 := Y) (by rw [hY]; exact storeR hBz 4 2 rfl ((FA7.eval 6 (by omega)).trans (show _ = Value.pointer (some ⟨V1.heap.size, 0, none⟩) from by simp [upd, hs1])) ((FA7.eval 56 (by omega)).trans (show _ = Value.agg #[.int .i64 4, .int .i64 2] from by simp [upd, hs1]))) ?_
        refine py (k := 20) rfl FA7 rfl hCE rfl (by omega) (wanted_none rfl) (v := Value.bool true) (fun wr hwr => by simp only [execOp, (FA7.eval 57 (by omega)).trans (show _ = Value.bool true from by simp [upd, hs1])]; first | rfl | simp [go_sem]) fun aA8 FA8 => ?_
        refine pdone (fun _ => hCE) ?_
        exact hrest _ _ Y V1.heap.size FA8 (show _ = Value.int .i64 2 from by simp [upd, hs1]) (show _ = Value.pointer (some ⟨V1.heap.size, 0, none⟩) from by simp [upd, hs1]) (show _ = Value.bool true from by simp [upd, hs1]) hBy hCy
      · refine pe' (k := 17) rfl F12 rfl rfl (by omega) (wanted_none rfl) (v := Value.pointer (some ⟨({ V with drawn := V.drawn + 1 } : World).heap.size, 0, none⟩)) (w1 := ({ V with drawn := V.drawn + 1 } : World).alloc (.cells #[.int .i64 0, .int .i64 0] 37)) (by simp only [execOp]; simp [go_sem, zero36]) fun aD1 FD1 => ?_
        have hBz : Blk (({ V with drawn := V.drawn + 1 } : World).alloc (.cells #[.int .i64 0, .int .i64 0] 37)) ({ V with drawn := V.drawn + 1 } : World).heap.size #[.int .i64 0, .int .i64 0] 37 := heap_alloc_new ({ V with drawn := V.drawn + 1 } : World) _
        have hbz : Below ({ V with drawn := V.drawn + 1 } : World).heap.size ({ V with drawn := V.drawn + 1 } : World) (({ V with drawn := V.drawn + 1 } : World).alloc (.cells #[.int .i64 0, .int .i64 0] 37)) := (Below.refl _ _).alloc (Nat.le_refl _) _
        have hCz : (fun wq => wq.cell? ⟨i.pb, 3, none⟩ = some (.pointer (some ⟨i.gb, 0, none⟩)) ∧ wq.cell? ⟨i.pb, 4, none⟩ = some (.pointer (some ⟨i.lb, 0, none⟩)) ∧ wq.cell? ⟨i.pb, 5, none⟩ = some (.pointer (some ⟨i.hb, 0, none⟩))) (({ V with drawn := V.drawn + 1 } : World).alloc (.cells #[.int .i64 0, .int .i64 0] 37)) := ⟨cell_below hbz hC0.1, cell_below hbz hC0.2.1, cell_below hbz hC0.2.2⟩
        have hlz : w.heap.size ≤ ({ V with drawn := V.drawn + 1 } : World).heap.size := (HBV.out.trans (Below.mono (Below.drew (Below.refl V.heap.size V)) HBV.out.size)).size
        refine pc (k := 12) rfl FD1 rfl hCz rfl (by omega) (wanted_none rfl) (g := 14) (args := #[Value.pointer (some ⟨i.gb, 0, none⟩), Value.string ⟨#[107]⟩, Value.pointer (some ⟨i.lb, 0, none⟩), Value.pointer (some ⟨i.hb, 0, none⟩)]) (by simp only [execOp, resolve, invoke, List.map_toArray, List.map_cons, List.map_nil, (FD1.eval 45 (by omega)).trans (show _ = Value.pointer (some ⟨i.gb, 0, none⟩) from by simp [upd, hs1]), (FD1.eval 49 (by omega)).trans (show _ = Value.pointer (some ⟨i.lb, 0, none⟩) from by simp [upd, hs1]), (FD1.eval 53 (by omega)).trans (show _ = Value.pointer (some ⟨i.hb, 0, none⟩) from by simp [upd, hs1])]; simp [go_sem, Act.eval]) (HTI.out (({ V with drawn := V.drawn + 1 } : World).alloc (.cells #[.int .i64 0, .int .i64 0] 37)) (show Below V.heap.size V (({ V with drawn := V.drawn + 1 } : World).alloc (.cells #[.int .i64 0, .int .i64 0] 37)) from Below.alloc (Below.drew (Below.refl V.heap.size V)) (Nat.le_refl _) _)) ?_
        rintro e9 V1 ⟨rfl, hc9⟩
        refine ⟨_, rfl, fun aD2 FD2 => ?_⟩
        have hpD : Blk (({ V with drawn := V.drawn + 1 } : World).alloc (.cells #[.int .i64 0, .int .i64 0] 37)) i.pb (pbox i 2) 56 := (HPV.out.more (show Below V.heap.size V (({ V with drawn := V.drawn + 1 } : World).alloc (.cells #[.int .i64 0, .int .i64 0] 37)) from Below.alloc (Below.drew (Below.refl V.heap.size V)) (Nat.le_refl _) _)).box
        have hpC := hc9.blk hpD ((HPV.out.more (show Below V.heap.size V (({ V with drawn := V.drawn + 1 } : World).alloc (.cells #[.int .i64 0, .int .i64 0] 37)) from Below.alloc (Below.drew (Below.refl V.heap.size V)) (Nat.le_refl _) _)).gs.map.ne_b hpD)
        have hCa : (fun wq => wq.cell? ⟨i.pb, 3, none⟩ = some (.pointer (some ⟨i.gb, 0, none⟩)) ∧ wq.cell? ⟨i.pb, 4, none⟩ = some (.pointer (some ⟨i.lb, 0, none⟩)) ∧ wq.cell? ⟨i.pb, 5, none⟩ = some (.pointer (some ⟨i.hb, 0, none⟩))) V1 := ⟨hpC.cell 3, hpC.cell 4, hpC.cell 5⟩
        have hbA : Below w.heap.size w V1 := (HBV.out.trans ((Below.mono (show Below V.heap.size V (({ V with drawn := V.drawn + 1 } : World).alloc (.cells #[.int .i64 0, .int .i64 0] 37)) from Below.alloc (Below.drew (Below.refl V.heap.size V)) (Nat.le_refl _) _) HBV.out.size))).trans ⟨hc9.os, hc9.tape, hc9.output, hc9.size, fun k hk => hc9.block k (Nat.lt_of_lt_of_le hk (HBV.out.trans ((Below.mono (show Below V.heap.size V (({ V with drawn := V.drawn + 1 } : World).alloc (.cells #[.int .i64 0, .int .i64 0] 37)) from Below.alloc (Below.drew (Below.refl V.heap.size V)) (Nat.le_refl _) _) HBV.out.size))).size) (fun e => by have := HPV.out.lo.2.2.1; omega)⟩
        have hBa := hc9.blk hBz ((HPV.out.more (show Below V.heap.size V (({ V with drawn := V.drawn + 1 } : World).alloc (.cells #[.int .i64 0, .int .i64 0] 37)) from Below.alloc (Below.drew (Below.refl V.heap.size V)) (Nat.le_refl _) _)).gs.map.ne_b hBz)
        refine py (k := 13) rfl FD2 rfl hCa rfl (by omega) (wanted_none rfl) (v := Value.tuple #[.int .i64 2, .agg #[.int .i64 4, .int .i64 2], .bool true]) (fun wr hwr => by simp only [execOp, (FD2.eval 54 (by omega)).trans (show _ = Value.tuple #[.int .i64 2, .agg #[.int .i64 4, .int .i64 2], .bool true] from by simp [upd, hs1])]; first | rfl | simp [go_sem]) fun aD3 FD3 => ?_
        refine py (k := 14) rfl FD3 rfl hCa rfl (by omega) (wanted_none rfl) (v := Value.int .i64 2) (fun wr hwr => by simp only [execOp, (FD3.eval 41 (by omega)).trans (show _ = Value.tuple #[.int .i64 2, .agg #[.int .i64 4, .int .i64 2], .bool true] from by simp [upd, hs1])]; simp [go_sem]) fun aD4 FD4 => ?_
        refine py (k := 15) rfl FD4 rfl hCa rfl (by omega) (wanted_none rfl) (v := Value.agg #[.int .i64 4, .int .i64 2]) (fun wr hwr => by simp only [execOp, (FD4.eval 41 (by omega)).trans (show _ = Value.tuple #[.int .i64 2, .agg #[.int .i64 4, .int .i64 2], .bool true] from by simp [upd, hs1])]; simp [go_sem]) fun aD5 FD5 => ?_
        refine py (k := 16) rfl FD5 rfl hCa rfl (by omega) (wanted_none rfl) (v := Value.bool true) (fun wr hwr => by simp only [execOp, (FD5.eval 41 (by omega)).trans (show _ = Value.tuple #[.int .i64 2, .agg #[.int .i64 4, .int .i64 2], .bool true] from by simp [upd, hs1])]; simp [go_sem]) fun aD6 FD6 => ?_
        refine py (k := 18) rfl FD6 rfl hCa rfl (by omega) (wanted_none rfl) (v := Value.int .i64 2) (fun wr hwr => by simp only [execOp, (FD6.eval 55 (by omega)).trans (show _ = Value.int .i64 2 from by simp [upd, hs1])]; first | rfl | simp [go_sem]) fun aD7 FD7 => ?_
        obtain ⟨Y, hY⟩ : ∃ Y, Y = ((World.setCell V1 ⟨({ V with drawn := V.drawn + 1 } : World).heap.size, 0, none⟩ (.int .i64 4)).setCell ⟨({ V with drawn := V.drawn + 1 } : World).heap.size, 1, none⟩ (.int .i64 2)) := ⟨_, rfl⟩
        have hBy : Blk Y ({ V with drawn := V.drawn + 1 } : World).heap.size #[.int .i64 4, .int .i64 2] 37 := by rw [hY]; exact (Blk.set hBa 0 (.int .i64 4)).set 1 (.int .i64 2)
        have hCy : Below w.heap.size w Y := by rw [hY]; exact set2_below (hbA) hlz _ _
        have hc2 : Chg (fun k => k = ({ V with drawn := V.drawn + 1 } : World).heap.size) V1 Y := by rw [hY]; exact (setCell_chg _ _ 0 _).trans (setCell_chg _ _ 1 _) (fun _ _ e => e)
        have hq : ∀ j v, World.cell? V1 ⟨i.pb, j, none⟩ = some v → Y.cell? ⟨i.pb, j, none⟩ = some v := fun j v e => (World.cell?_of_block (w := V1) (hc2.block _ (World.block_lt_of_cell? _ _ e) (fun e2 => HNB.out i.pb HPV.out.box.lt (Nat.le_trans (Nat.le_refl _) (Nat.le_of_eq (Eq.symm e2)))))).trans e
        have hCE : (fun wq => wq.cell? ⟨i.pb, 3, none⟩ = some (.pointer (some ⟨i.gb, 0, none⟩)) ∧ wq.cell? ⟨i.pb, 4, none⟩ = some (.pointer (some ⟨i.lb, 0, none⟩)) ∧ wq.cell? ⟨i.pb, 5, none⟩ = some (.pointer (some ⟨i.hb, 0, none⟩))) Y := ⟨hq 3 _ hCa.1, hq 4 _ hCa.2.1, hq 5 _ hCa.2.2⟩
        refine ps (k := 19) rfl rfl hCa rfl (wanted_none rfl) (w1 := Y) (by rw [hY]; exact storeR hBa 4 2 rfl ((FD7.eval 6 (by omega)).trans (show _ = Value.pointer (some ⟨({ V with drawn := V.drawn + 1 } : World).heap.size, 0, none⟩) from by simp [upd, hs1])) ((FD7.eval 56 (by omega)).trans (show _ = Value.agg #[.int .i64 4, .int .i64 2] from by simp [upd, hs1]))) ?_
        refine py (k := 20) rfl FD7 rfl hCE rfl (by omega) (wanted_none rfl) (v := Value.bool true) (fun wr hwr => by simp only [execOp, (FD7.eval 57 (by omega)).trans (show _ = Value.bool true from by simp [upd, hs1])]; first | rfl | simp [go_sem]) fun aD8 FD8 => ?_
        refine pdone (fun _ => hCE) ?_
        exact hrest _ _ Y ({ V with drawn := V.drawn + 1 } : World).heap.size FD8 (show _ = Value.int .i64 2 from by simp [upd, hs1]) (show _ = Value.pointer (some ⟨({ V with drawn := V.drawn + 1 } : World).heap.size, 0, none⟩) from by simp [upd, hs1]) (show _ = Value.bool true from by simp [upd, hs1]) hBy hCy
end Go.Proofs.YtnphkmdanicemaaGreatDoor
