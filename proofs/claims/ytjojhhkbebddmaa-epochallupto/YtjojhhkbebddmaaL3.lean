import Derived.Test.YtjojhhkbebddmaaR14
import Derived.Test.YtjojhhkbebddmaaEn
namespace Go.Proofs.Ytjojhhkbebddmaa
open Go.RowKit Go.PlainAid
set_option linter.unusedVariables false
set_option linter.unusedSimpArgs false
theorem MM.low {L L0 mb cb : Nat} {x : EV} {A : List Ac} {w : World} (h : MM L mb cb x A w) (hl : L0 ≤ L) : MM L0 mb cb x A w := ⟨h.b, h.c, by have := h.lo; omega⟩
theorem RM.low {L L0 : Nat} {g : RG} {r : RV} {w : World} (h : RM L g r w) (hl : L0 ≤ L) : RM L0 g r w := ⟨h.b, ownsRow_mono h.k hl, ownsRow_mono h.o hl, ownsRow_mono h.t hl, h.dj, by have := h.lo; omega⟩
set_option maxRecDepth 100000 in
set_option maxHeartbeats 6400000 in
theorem begin_no {pb : Nat} (me n : Int) (w : World) (hB : Blk w pb #[.pointer none, .pointer none] 69) (h : newC me n ≠ 0) : Calls Try.prog 26 #[.pointer (some ⟨pb, 0, none⟩), .int .i64 me, .int .i64 n] w fun e w' => e = .returned (.bool true) ∧ Blk w' pb #[.pointer none, .pointer none] 69 ∧ Chg (fun k => k = pb) w w' := by
  have HN : Hid _ := new_no me n w h
  have HR : Hid _ := rnew_no me n w h
  have b0 := hB.cell 0
  have b1 := hB.cell 1
  have f0 := hB.frozen 0
  have f1 := hB.frozen 1
  have HBB : Hid (Blk w pb #[.pointer none, .pointer none] 69) := hB
  generalize newC me n = c at *
  clear h hB
  go_enter Try.func26, Try.ntmps26
  go_wp2_with (first
    | (go_at_call 16; refine Calls.mono HN.out ?_; rintro e w1 ⟨rfl, hw1⟩; replace hw1 := hw1.symm; subst hw1)
    | (go_at_call 45; refine Calls.mono HR.out ?_; rintro e w1 ⟨rfl, hw1⟩; replace hw1 := hw1.symm; subst hw1)
    | fail)
  go_ret
  exact ⟨rfl, (HBB.out.set 0 _).set 1 _, (setCell_chg _ _ _ _).trans (setCell_chg _ _ _ _) (fun _ _ e => e)⟩
set_option maxRecDepth 100000 in
set_option maxHeartbeats 6400000 in
theorem begin_yes {pb : Nat} (me n : Nat) (w : World) (hB : Blk w pb #[.pointer none, .pointer none] 69) (h : newC me n = 0) : Calls Try.prog 26 #[.pointer (some ⟨pb, 0, none⟩), .int .i64 (me : Int), .int .i64 (n : Int)] w fun e w' => e = .returned (.bool true) ∧ ∃ mb cb g, Blk w' pb #[.pointer (some ⟨mb, 0, none⟩), .pointer (some ⟨g.rb, 0, none⟩)] 69 ∧ MM w.heap.size mb cb (newX me n) [] w' ∧ RM w.heap.size g ⟨me, n, [], [], [], false⟩ w' ∧ (∀ k, mown mb cb k → ¬ rown g k) ∧ Chg (fun k => k = pb) w w' := by
  have HN : Hid _ := new_yes me n w h
  have HR : Hid (∀ W, Calls Try.prog 45 #[.int .i64 (me : Int), .int .i64 (n : Int)] W fun e w' => e = .returned (.tuple #[.pointer (some ⟨W.heap.size, 0, none⟩), .int .i64 0]) ∧ RM W.heap.size ⟨W.heap.size, .slice none 0 0, .slice none 0 0, .slice none 0 0⟩ ⟨me, n, [], [], [], false⟩ w' ∧ Below W.heap.size W w') := fun W => rnew_yes me n W h
  have hlt := hB.lt
  have HBB : Hid (Blk w pb #[.pointer none, .pointer none] 69) := hB
  clear h hB
  go_enter Try.func26, Try.ntmps26
  go_upto_region 3 with (first
    | (go_at_call 16; refine Calls.mono HN.out ?_; rintro e w1 ⟨rfl, hm1, hb1⟩)
    | (go_at_call 45; refine Calls.mono (HR.out _) ?_; rintro e w2 ⟨rfl, hr2, hb2⟩)
    | fail)
  have hB2 : Blk w2 pb #[.pointer none, .pointer none] 69 := (HBB.out.up hb1).up hb2
  have b0 := hB2.cell 0
  have b1 := hB2.cell 1
  have f0 := hB2.frozen 0
  have f1 := hB2.frozen 1
  have hz1 := hb1.size
  have hclt := hm1.clt
  have hblt := hm1.b.lt
  have hm2 := hm1.more hb2
  have HM2 : Hid _ := hm2
  have HR2 : Hid _ := hr2
  have HB2 : Hid (Blk w2 pb #[.pointer none, .pointer none] 69) := hB2
  have HBL : Hid (Below w.heap.size w w2) := bgo hb1 hb2 (Nat.le_refl _)
  have h2lt := hr2.b.lt
  clear hm1 hm2 hr2 hB2 hb1 hb2 HN HR
  go_wp2_with fail
  go_ret
  have hc : Chg (fun k => k = pb) w2 ((w2.setCell ⟨pb, 0, none⟩ (.pointer (some ⟨w.heap.size + 1, 0, none⟩))).setCell ⟨pb, 1, none⟩ (.pointer (some ⟨w1.heap.size, 0, none⟩))) := (setCell_chg _ _ _ _).trans (setCell_chg _ _ _ _) (fun _ _ e => e)
  have hn : ∀ q, rown (⟨w1.heap.size, .slice none 0 0, .slice none 0 0, .slice none 0 0⟩ : RG) q → q = w1.heap.size := fun q hq => by
    rcases hq with q | q | q | q
    · exact q
    · cases q
    · cases q
    · cases q
  refine ⟨rfl, w.heap.size + 1, w.heap.size, ⟨w1.heap.size, .slice none 0 0, .slice none 0 0, .slice none 0 0⟩, (HB2.out.set 0 _).set 1 _, HM2.out.keep hc (fun k hk e => by rcases hk with rfl | rfl <;> omega), (HR2.out.low hz1).keep hc (fun k hk e => by have := hn k hk; omega), fun k hk e => ?_, (Chg.ofBelow _ HBL.out).trans hc (fun _ _ e => e)⟩
  have := hn k e
  rcases hk with rfl | rfl <;> omega
end Go.Proofs.Ytjojhhkbebddmaa
