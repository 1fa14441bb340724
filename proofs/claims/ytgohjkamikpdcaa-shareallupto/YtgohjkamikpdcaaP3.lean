import Derived.Test.YtgohjkamikpdcaaLent
import Derived.Test.YtgohjkamikpdcaaRAsk
namespace Go.Proofs.Ytgohjkamikpdcaa
open Go.RowKit Go.PlainAid
set_option linter.unusedVariables false
set_option linter.unusedSimpArgs false
/-- A call that is played: what it was handed, its own copy of it (at g), what else may change (A). -/
structure PB (A : Nat → Prop) (w : World) (K a b : Int) (ao : Option Addr) (n c : Nat) (zs : List Int) (g cap : Nat) (ys : List Int) (wr : World) : Prop where
  chg : Chg A w wr
  box : Blk wr w.heap.size #[.int .i64 K, .int .i64 a, .int .i64 b, .slice ao n c] 47
  row : wr.ownsRow (w.heap.size + 1) 3 1 (.slice (some ⟨g, 0, none⟩) (n + 2) cap) (n + 2) (ys.map I)
  src : FromI wr ao zs
section
variable {A B : Nat → Prop} {w wr w2 : World} {K a b : Int} {ao : Option Addr} {n c : Nat} {zs : List Int} {g cap : Nat} {ys ys2 : List Int}
theorem PB.c0 (h : PB A w K a b ao n c zs g cap ys wr) : wr.cell? ⟨w.heap.size, 0, none⟩ = some (.int .i64 K) := h.box.cell 0
theorem PB.c1 (h : PB A w K a b ao n c zs g cap ys wr) : wr.cell? ⟨w.heap.size, 1, none⟩ = some (.int .i64 a) := h.box.cell 1
theorem PB.c2 (h : PB A w K a b ao n c zs g cap ys wr) : wr.cell? ⟨w.heap.size, 2, none⟩ = some (.int .i64 b) := h.box.cell 2
theorem PB.c3 (h : PB A w K a b ao n c zs g cap ys wr) : wr.cell? ⟨w.heap.size, 3, none⟩ = some (.slice ao n c) := h.box.cell 3
theorem PB.low (h : PB A w K a b ao n c zs g cap ys wr) : w.heap.size + 1 ≤ g ∧ g < wr.heap.size := ownsRow_lt h.row rfl
theorem PB.more (h : PB A w K a b ao n c zs g cap ys wr) (hb : Below wr.heap.size wr w2) : PB A w K a b ao n c zs g cap ys w2 :=
  ⟨h.chg.trans (Chg.ofBelow (fun _ => False) hb) (fun _ _ e => e.elim), h.box.below hb h.box.lt, ownsRow_same h.row (fun j hj => hb.block j (ownsRow_lt h.row hj).2), h.src.all hb⟩
theorem PB.drewN (h : PB A w K a b ao n c zs g cap ys wr) (q : Nat) : PB A w K a b ao n c zs g cap ys (wr.drewN q) := h.more (below_drewN (Below.refl _ _) q)
/-- Blocks of B change: none of these. -/
theorem PB.keep (h : PB A w K a b ao n c zs g cap ys wr) (hc : Chg B wr w2) (h1 : ¬ B w.heap.size) (h2 : ¬ B g) (h3 : 0 < zs.length → ∀ b off, ao = some ⟨b, off, none⟩ → ¬ B b) (h4 : ∀ j, j < w.heap.size → B j → A j) : PB A w K a b ao n c zs g cap ys w2 := by
  refine ⟨h.chg.trans hc h4, hc.blk h.box h1, ownsRow_same h.row (fun j hj => ?_), ?_⟩
  · have e : j = g := (Option.some.inj hj).symm
    subst e
    exact hc.block j h.low.2 h2
  · intro h0
    obtain ⟨bb, off, e, hcell⟩ := h.src h0
    subst e
    refine ⟨bb, off, rfl, fun j u hu => (World.cell?_of_block (w := wr) (hc.block bb (h.src.lt h0) (h3 h0 bb off rfl))).trans (hcell j u hu)⟩
/-- The copy is written over. -/
theorem PB.over (h : PB A w K a b ao n c zs g cap ys wr) (hc : Chg (fun k => k = g) wr w2) (hr : w2.ownsRow (w.heap.size + 1) 3 1 (.slice (some ⟨g, 0, none⟩) (n + 2) cap) (n + 2) (ys2.map I)) (h3 : 0 < zs.length → ∀ b off, ao = some ⟨b, off, none⟩ → b < w.heap.size) : PB A w K a b ao n c zs g cap ys2 w2 := by
  have hl := h.low
  refine ⟨h.chg.trans hc (fun j hj e => absurd hj (by omega)), hc.blk h.box (by omega), hr, ?_⟩
  intro h0
  obtain ⟨bb, off, e, hcell⟩ := h.src h0
  subst e
  have := h3 h0 bb off rfl
  exact ⟨bb, off, rfl, fun j u hu => (World.cell?_of_block (w := wr) (hc.block bb (h.src.lt h0) (by omega))).trans (hcell j u hu)⟩
theorem PB.lent (h : PB A w K a b ao n c zs g cap (zs ++ ys) wr) (hl : zs.length = n) : FromI wr (some ⟨g, 0, none⟩) zs := by
  obtain ⟨_, _, e, _, _, _, hf, _⟩ := own_from (own_take h.row hl)
  cases e
  exact hf
end
theorem PB.start {w w1 : World} {K a b : Int} {ao : Option Addr} {n c g cap : Nat} {zs ys : List Int} (A : Nat → Prop) (hx : FromI w ao zs) (hb : Below (w.heap.size + 1) (w.alloc (.cells #[.int .i64 K, .int .i64 a, .int .i64 b, .slice ao n c] 47)) w1)
    (hr : w1.ownsRow (w.heap.size + 1) 3 1 (.slice (some ⟨g, 0, none⟩) (n + 2) cap) (n + 2) (ys.map I)) : PB A w K a b ao n c zs g cap ys w1 := by
  have hK0 : Blk (w.alloc (.cells #[.int .i64 K, .int .i64 a, .int .i64 b, .slice ao n c] 47)) w.heap.size #[.int .i64 K, .int .i64 a, .int .i64 b, .slice ao n c] 47 := heap_alloc_new w _
  have hB0 : Below w.heap.size w w1 := ((Below.refl _ _).alloc (Nat.le_refl _) _).trans (hb.mono (by omega))
  exact ⟨Chg.ofBelow A hB0, hK0.below hb (by omega), hr, hx.all hB0⟩
theorem five (n : Nat) : List.replicate (n + 2) (5 : Int) = List.replicate n 5 ++ [5, 5] := by
  rw [show ([5, 5] : List Int) = List.replicate 2 5 from rfl, List.replicate_append_replicate]
set_option maxRecDepth 100000 in
set_option maxHeartbeats 6400000 in
theorem played3 {ao : Option Addr} {n c kb : Nat} {zs : List Int} (a b : Int) (haw : IntKind.i64.wrap a = a) (w : World) (hl : zs.length = n) (hnil : ao = none → n = 0 ∧ c = 0) (hx : FromI w ao zs) (hn : (n + 2) * 8 ≤ 140737488355328) :
    Calls Try.prog 15 #[.pointer (some ⟨kb, 0, none⟩), .agg #[.int .i64 3, .int .i64 a, .int .i64 b, .slice ao n c]] w fun r w' => r = .returned (.bool true) ∧ Below w.heap.size w w' := by
  have hle := lent_any (c := c) (w.alloc (.cells #[.int .i64 3, .int .i64 a, .int .i64 b, .slice ao n c] 47)) hl hnil (hx.all ((Below.refl _ _).alloc (Nat.le_refl _) _)) hn
  have hsz : (w.alloc (.cells #[.int .i64 3, .int .i64 a, .int .i64 b, .slice ao n c] 47)).heap.size = w.heap.size + 1 := World.size_alloc _ _
  have hc3 : (w.alloc (.cells #[.int .i64 3, .int .i64 a, .int .i64 b, .slice ao n c] 47)).cell? ⟨w.heap.size, 3, none⟩ = some (.slice ao n c) := Blk.cell (show Blk _ _ #[.int .i64 3, .int .i64 a, .int .i64 b, .slice ao n c] 47 from heap_alloc_new w _) 3
  rw [hsz] at hle
  have HX : Hid (FromI w ao zs) := hx
  have HNIL : Hid (ao = none → n = 0 ∧ c = 0) := hnil
  have HAO : Hid (0 < zs.length → ∀ b off, ao = some ⟨b, off, none⟩ → b < w.heap.size) := fun h0 b off e => by subst e; exact hx.lt h0
  clear hx hsz hnil
  go_enter Try.func15, Try.ntmps15
  go_wp2_with fail
  refine hle.mono ?_
  rintro e w1 ⟨g, cap, rfl, hcap, hrow, hb1⟩
  have hP : PB (fun _ => False) w 3 a b ao n c zs g cap (zs ++ [77, 78]) w1 := PB.start _ HX.out hb1 hrow
  have hnc : n ≤ cap := by omega
  have b0 := hP.c0
  have b1 := hP.c1
  have b2 := hP.c2
  have b3 := hP.c3
  have HP : Hid _ := hP
  clear hrow hb1 hP hle hc3 HX
  go_wp2_with fail
  have hk1 := fun q => ask_any (c := cap) a haw (w1.drewN q) hl (show FromI (w1.drewN q) (some ⟨g, 0, none⟩) zs from HP.out.lent hl) (by omega)
  have hk2 := fun q => rask_any (c := c) a haw (w1.drewN q) hl (show FromI (w1.drewN q) ao zs from HP.out.src) (by omega)
  go_quiet (first | (go_at_call 10; exact Calls.quiet_of (hk1 _)) | (go_at_call 27; exact Calls.quiet_of (hk2 _)) | fail)
  generalize hw2 : w1.drewN _ = w2
  have HP2 : Hid (PB (fun _ => False) w 3 a b ao n c zs g cap (zs ++ [77, 78]) w2) := by rw [← hw2]; exact HP.out.drewN _
  clear hw2 hk1 hk2 HP
  clear b0 b1 b2 b3
  have hback := back_any (c := c) w2 hl HP2.out.src hn HP2.out.row hcap
  have b3 := HP2.out.c3
  go_wp2_with fail
  refine hback.mono ?_
  rintro e w3 ⟨rfl, hr3, hc3⟩
  have hP3 := HP2.out.over hc3 hr3 HAO.out
  have c0 := hP3.c0
  have c1 := hP3.c1
  have c2 := hP3.c2
  have c3 := hP3.c3
  have HP3 : Hid _ := hP3
  have hrow5 := hP3.row
  rw [five] at hrow5
  have HR5 : Hid _ := own_take hrow5 (m := n) (by simp)
  have HF5 : Hid (FromI w3 (some ⟨g, 0, none⟩) (List.replicate n 5)) := by
    obtain ⟨_, _, e, _, _, _, hf, _⟩ := own_from HR5.out
    cases e
    exact hf
  clear hr3 hc3 hP3 hrow5 hback HP2 b3
  go_wp2_with (first
    | (at_builtin; go_must (refine wpList_copy rfl _ _ rfl rfl (some ⟨g, 0, none⟩) n cap (List.replicate n 5) rfl (by simp) (by intro h; cases h) HF5.out (by omega) ?_))
    | fail)
  intro vo vc w4 h4 hb4
  replace h4 : w4.ownsRow w3.heap.size 3 1 (.slice vo n vc) n ((List.replicate n (5 : Int)).map I) := by rw [List.map_replicate]; exact h4
  have hP4 := HP3.out.more hb4
  have d0 := hP4.c0
  have d1 := hP4.c1
  have d2 := hP4.c2
  have d3 := hP4.c3
  have HP4 : Hid _ := hP4
  have hf4 : FromI w4 (some ⟨g, 0, none⟩) (List.replicate n 5) := FromI.all HF5.out hb4
  have hg4 : FromI w4 vo (List.replicate n 5) := by
    obtain ⟨_, _, e, _, _, _, hf, _⟩ := own_from h4
    cases e
    exact hf
  have HF4 : Hid (FromI w4 (some ⟨g, 0, none⟩) (List.replicate n 5)) := hf4
  have HG4 : Hid (FromI w4 vo (List.replicate n 5)) := hg4
  clear h4 hb4 hP4 hf4 hg4 HP3 HR5 HF5 c0 c1 c2 c3
  go_wp2_with fail
  have hk1 := fun q => ask_any (c := cap) a haw (w4.drewN q) (zs := List.replicate n 5) (n := n) (by simp) (show FromI (w4.drewN q) (some ⟨g, 0, none⟩) (List.replicate n 5) from HF4.out) (by omega)
  have hk2 := fun q => rask_any (c := vc) a haw (w4.drewN q) (zs := List.replicate n 5) (n := n) (by simp) (show FromI (w4.drewN q) vo (List.replicate n 5) from HG4.out) (by omega)
  go_quiet (first | (go_at_call 10; exact Calls.quiet_of (hk1 _)) | (go_at_call 27; exact Calls.quiet_of (hk2 _)) | fail)
  go_wp2
  go_ret
  exact ⟨by simp, (HP4.out.drewN _).chg.below (Nat.le_refl _) (fun _ e => e.elim)⟩
end Go.Proofs.Ytgohjkamikpdcaa
