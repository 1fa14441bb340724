import Derived.Test.YtbjlaloofpdbfaaIt
import Derived.RangeFuncNested
import Derived.RangeFuncBound
import Derived.RangeFuncCalls
import Derived.RangeFuncLeaves
import Derived.RangeFuncBox
import Derived.Shelf.Abstract
import Derived.Shelf.RegionOpen
import Derived.WalkKit
import Derived.OwnWalkIn
import Derived.TacticsInMore
import Derived.LoopNIn
import Derived.LoopIn
import Derived.Maps.AppendAt
namespace Go.Proofs.Ytbjlaloofpdbfaa
open Go.RowKit Go.PlainAid Go.MapKept Go.Shelf
set_option linter.unusedVariables false
set_option linter.unusedSimpArgs false
attribute [local go_sem] Oper.semAt_some
def flatC (ys : List (Int × Int)) : List Value := ys.flatMap fun c => [.int .i64 c.1, .int .i64 c.2]
def flatS (ys : List (List UInt8)) : List Value := ys.map Str
theorem flatC_append (a b : List (Int × Int)) : flatC (a ++ b) = flatC a ++ flatC b := by simp [flatC]
theorem flatS_append (a b : List (List UInt8)) : flatS (a ++ b) = flatS a ++ flatS b := by simp [flatS]
theorem info37 : (Try.prog.info? 37).map (fun i => (i.zero, i.size, i.bytes)) = some (some (.agg #[.int .i64 0, .int .i64 0]), 2, 16) := by kernel_rfl
theorem info9 : (Try.prog.info? 9).map (fun i => (i.zero, i.size, i.bytes)) = some (some (.string ⟨#[]⟩), 1, 16) := by kernel_rfl
theorem cell_two_new' (W : World) (a b : Value) (t : TypeId) : ∀ j u, [a, b][j]? = some u → (W.alloc (.cells #[a, b] t)).cell? ((⟨W.heap.size, 0, none⟩ : Addr).add j) = some u := fun j u hu => by
  rw [addr_add, Nat.zero_add]
  have hB : Blk (W.alloc (.cells #[a, b] t)) W.heap.size #[a, b] t := heap_alloc_new W _
  rw [hB.cell j]
  simpa using hu
theorem blk_own (b : Nat) (C : Array Value) (T : TypeId) : Own (fun (_ : Unit) W => Blk W b C T) := fun s X Y row hs hg hrow => by
  have hne : some b ≠ row := fun e => by
    obtain ⟨o, ho, hc⟩ := hrow b e.symm
    rw [show X.heap[b]? = _ from hs] at ho
    cases ho
    cases hc
  exact (hg.block b (Array.getElem?_eq_some_iff.1 hs).1 hne).trans hs
set_option maxRecDepth 100000 in
set_option maxHeartbeats 1600000 in
theorem apsC_in (F : Fence) (n : Nat) (hf : F.fn 61) (hi : F.fn 49) (hro : F.round = none) (hn : 3 ≤ n) (Bm mb : Nat) (L : List ((Int × Int) × OpA)) (w : World) (hc : w.cell? ⟨Bm, 0, none⟩ = some (.map (some mb))) (hM : HMap MC w mb L) (hL : L.length ≤ 100000) :
    CallsIn F n Try.prog 61 #[.slice none 0 0, .func (.func 49) #[] #[.pointer (some ⟨Bm, 0, none⟩)]] w fun e W' => ∃ v ys, e = .returned v ∧ ys.Perm (L.map (·.1)) ∧ W'.ownsRow w.heap.size 37 2 v ys.length (flatC ys) ∧ Below w.heap.size w W' := by
  have h1 : 1 ≤ n := by omega
  obtain ⟨i0, hi0, hz0, hz1, hz2⟩ := info_parts info37
  refine callsIn_of_wp_marks Try.func61 rfl hf ?_ hro
  simp only [Try.ntmps61, List.size_toArray, List.length_cons, List.length_nil, Nat.reduceAdd, Nat.reduceSub, Array.replicate_succ, Array.replicate_zero, List.push_toArray, List.append_toArray, List.nil_append, List.cons_append]
  gi_wp2
  have bO := Boxed.new w 45 (.slice none 0 0)
  have hB0 : Below w.heap.size w (w.alloc (.cells #[.slice none 0 0] 45)) := (Below.refl _ w).alloc (Nat.le_refl _) _
  have hsz : (w.alloc (.cells #[.slice none 0 0] 45)).heap.size = w.heap.size + 1 := by simp
  have hc0 : (w.alloc (.cells #[.slice none 0 0] 45)).cell? ⟨Bm, 0, none⟩ = some (.map (some mb)) := (hB0.cell (p := ⟨Bm, 0, none⟩) (World.block_lt_of_cell? w _ hc)).trans hc
  have hM0 : HMap MC (w.alloc (.cells #[.slice none 0 0] 45)) mb L := hM.same (hB0.block mb hM.lt)
  obtain ⟨W0, hW0⟩ : ∃ W0, w.alloc (.cells #[.slice none 0 0] 45) = W0 := ⟨_, rfl⟩
  rw [hW0] at bO hB0 hsz hc0 hM0 ⊢
  clear hW0
  refine wpIn_rangeFunc_ownH hro h1 (gf := 49) (lb := #[.pointer (some ⟨Bm, 0, none⟩)]) rfl hi (enters_of Try.func49 (by kernel_rfl) rfl)
    (keysC_stops F (n - 1) hi hro (by omega) Bm mb L W0 hc0 hM0) walksK_t walksK_b (Below.refl _ _) (fun _ => rfl)
    (fun pre W => (∃ v, Boxed W w.heap.size 45 v ∧ W.ownsRow w.heap.size 37 2 v pre.length (flatC pre) ∧ True) ∧ Below w.heap.size w W)
    (fun _ _ _ => False)
    (OwnFrom.and (Own.from (holdsRow_own w.heap.size w.heap.size 45 37 2 (fun pre => pre.length) flatC (fun _ _ => True)) _) (ownFrom_below (Nat.le_refl _) (by omega)))
    (fun _ _ _ _ _ hs _ _ => hs)
    ⟨⟨_, bO, World.ownsRow_nil _ _ _ _, trivial⟩, hB0⟩
    (fun x a' W => ∃ Bx, w.heap.size < Bx ∧ Blk W Bx #[.int .i64 x.1, .int .i64 x.2] 37 ∧ a' = { tmps := #[.slice none 0 0, .func (.func 49) #[] #[.pointer (some ⟨Bm, 0, none⟩)], .pointer (some ⟨w.heap.size, 0, none⟩), undef, .slice none 0 0, .pointer (some ⟨Bx, 0, none⟩), .func (.func 49) #[] #[.pointer (some ⟨Bm, 0, none⟩)], callV x, undef, undef, undef, undef, undef], defers := [] })
    (fun x a' _ X Y row hs hg hr => by obtain ⟨Bx, h1, h2, h3⟩ := hs; exact ⟨Bx, h1, blk_own Bx _ 37 () X Y row h2 hg (fun r e => (hr r e).2), h3⟩)
    ?assign ?body ?done ?stop
  case assign =>
    rintro l pre x W K ⟨⟨v1, b1, r1, _⟩, hB1⟩ hK
    unfold callV at hK ⊢
    gi_wp2
    exact hK _ _ ((KeepsOthers.alloc _ _).from _) (KeepsWalks.alloc _ _) ⟨⟨v1, b1.alloc _, r1.alloc _, trivial⟩, hB1.alloc hB1.size _⟩ ⟨W.heap.size, b1.lt, heap_alloc_new W _, rfl⟩
  case body =>
    rintro l pre x a' W hl ⟨r, hr⟩ ⟨⟨v, hv, hrow, _⟩, hB⟩ ⟨Bx, hBx, bX, rfl⟩ hlt
    have hcv := hv.cell
    have x0 : W.cell? ⟨Bx, 0, none⟩ = some (.int .i64 x.1) := bX.cell 0
    have x1 : W.cell? ⟨Bx, 1, none⟩ = some (.int .i64 x.2) := bX.cell 1
    gi_wp2_with (gi_at_builtin; refine wpListIn_append_own _ rfl _ _ 45 rfl w.heap.size 37 i0 (.agg #[.int .i64 0, .int .i64 0]) 2 16 Try.underlying45 hi0 hz0 hz1 hz2 rfl (by decide) _ _ _ rfl (hrow.alloc _) ⟨W.heap.size, 0, none⟩ 1 1 [.int .i64 x.1, .int .i64 x.2] rfl rfl (cell_two_new' _ _ _ _) (by simp [Value.oneCell', Str]) (by unfold maxLen; omega) (by omega) (by have := hB.size; simp; omega) ?_; intro v' w1 hown' hgrow _; obtain ⟨g', cap', rfl⟩ := ownsRow_succ hown'; obtain ⟨hv1, hv2, hr2, hk2, hb2⟩ := hv.appended (by decide) hrow hB.size (Nat.le_refl _) hown' hgrow; have hc1 := hv1.cell; have hf1 := hv1.frozen)
    exact ⟨hk2.from _, hk2.walks, ⟨_, hv2, by rw [flatC_append]; simpa [flatC] using hr2, trivial⟩, hB.trans hb2⟩
  case done =>
    rintro D ys W hD hS ⟨⟨v, hv, hrow, _⟩, hB⟩ hK
    have hcv := hv.cell
    gi_wp2
    refine ⟨by simp, .inl ⟨_, _, rfl, run_takeDeferred hK, ?_⟩⟩
    exact ⟨_, results_tmp rfl _ _ _, v, ys, rfl, hS, ownsRow_putObj hrow _ hK rfl, hB.trans (belowK_b (w := w) (Nat.le_refl _) W D _ _ (by omega) hK rfl rfl)⟩
  case stop =>
    rintro D c pre W _ _ h _
    exact h.elim
set_option maxRecDepth 100000 in
set_option maxHeartbeats 1600000 in
theorem colC_any (Bm mb : Nat) (L : List ((Int × Int) × OpA)) (w : World) (hc : w.cell? ⟨Bm, 0, none⟩ = some (.map (some mb))) (hM : HMap MC w mb L) (hL : L.length ≤ 100000) :
    Calls Try.prog 47 #[.func (.func 49) #[] #[.pointer (some ⟨Bm, 0, none⟩)]] w fun e W' => ∃ v ys, e = .returned v ∧ ys.Perm (L.map (·.1)) ∧ W'.ownsRow w.heap.size 37 2 v ys.length (flatC ys) ∧ Below w.heap.size w W' := by
  have HA : Hid (Calls Try.prog 61 #[.slice none 0 0, .func (.func 49) #[] #[.pointer (some ⟨Bm, 0, none⟩)]] w _) := (callsIn_wide (n := 3)).1 (apsC_in Fence.wide 3 trivial trivial rfl (Nat.le_refl _) Bm mb L w hc hM hL)
  clear hc hM hL
  go_enter Try.func47, Try.ntmps47
  go_wp2_with fail
  refine Calls.mono HA.out ?_
  rintro e w2 ⟨v, ys, rfl, hp, hr, hb⟩
  have HP : Hid (ys.Perm (L.map (·.1))) := hp
  have HR : Hid (World.ownsRow w2 w.heap.size 37 2 v ys.length (flatC ys)) := hr
  have HB : Hid _ := hb
  clear hp hr hb
  go_wp2_with fail
  go_ret
  exact ⟨v, ys, rfl, HP.out, HR.out, HB.out⟩
theorem keysC_any (mb : Nat) (w : World) : Calls Try.prog 34 #[.map (some mb)] w fun e w' => e = .returned (.func (.func 49) #[] #[.pointer (some ⟨w.heap.size, 0, none⟩)]) ∧ w' = w.alloc (.cells #[.map (some mb)] 70) :=
  (callsIn_wide (n := 3)).1 (keysC_in Fence.wide 3 trivial rfl mb w)
set_option maxRecDepth 100000 in
set_option maxHeartbeats 1600000 in
theorem apsS_in (F : Fence) (n : Nat) (hf : F.fn 64) (hi : F.fn 53) (hro : F.round = none) (hn : 3 ≤ n) (Bm mb : Nat) (L : List ((List UInt8) × Int)) (w : World) (hc : w.cell? ⟨Bm, 0, none⟩ = some (.map (some mb))) (hM : HMap MH w mb L) (hL : L.length ≤ 100000) :
    CallsIn F n Try.prog 64 #[.slice none 0 0, .func (.func 53) #[] #[.pointer (some ⟨Bm, 0, none⟩)]] w fun e W' => ∃ v ys, e = .returned v ∧ ys.Perm (L.map (·.1)) ∧ W'.ownsRow w.heap.size 9 1 v ys.length (flatS ys) ∧ Below w.heap.size w W' := by
  have h1 : 1 ≤ n := by omega
  obtain ⟨i0, hi0, hz0, hz1, hz2⟩ := info_parts info9
  refine callsIn_of_wp_marks Try.func64 rfl hf ?_ hro
  simp only [Try.ntmps64, List.size_toArray, List.length_cons, List.length_nil, Nat.reduceAdd, Nat.reduceSub, Array.replicate_succ, Array.replicate_zero, List.push_toArray, List.append_toArray, List.nil_append, List.cons_append]
  gi_wp2
  have bO := Boxed.new w 51 (.slice none 0 0)
  have hB0 : Below w.heap.size w (w.alloc (.cells #[.slice none 0 0] 51)) := (Below.refl _ w).alloc (Nat.le_refl _) _
  have hsz : (w.alloc (.cells #[.slice none 0 0] 51)).heap.size = w.heap.size + 1 := by simp
  have hc0 : (w.alloc (.cells #[.slice none 0 0] 51)).cell? ⟨Bm, 0, none⟩ = some (.map (some mb)) := (hB0.cell (p := ⟨Bm, 0, none⟩) (World.block_lt_of_cell? w _ hc)).trans hc
  have hM0 : HMap MH (w.alloc (.cells #[.slice none 0 0] 51)) mb L := hM.same (hB0.block mb hM.lt)
  obtain ⟨W0, hW0⟩ : ∃ W0, w.alloc (.cells #[.slice none 0 0] 51) = W0 := ⟨_, rfl⟩
  rw [hW0] at bO hB0 hsz hc0 hM0 ⊢
  clear hW0
  refine wpIn_rangeFunc_ownH hro h1 (gf := 53) (lb := #[.pointer (some ⟨Bm, 0, none⟩)]) rfl hi (enters_of Try.func53 (by kernel_rfl) rfl)
    (keysS_stops F (n - 1) hi hro (by omega) Bm mb L W0 hc0 hM0) walksK_t walksK_b (Below.refl _ _) (fun _ => rfl)
    (fun pre W => (∃ v, Boxed W w.heap.size 51 v ∧ W.ownsRow w.heap.size 9 1 v pre.length (flatS pre) ∧ True) ∧ Below w.heap.size w W)
    (fun _ _ _ => False)
    (OwnFrom.and (Own.from (holdsRow_own w.heap.size w.heap.size 51 9 1 (fun pre => pre.length) flatS (fun _ _ => True)) _) (ownFrom_below (Nat.le_refl _) (by omega)))
    (fun _ _ _ _ _ hs _ _ => hs)
    ⟨⟨_, bO, World.ownsRow_nil _ _ _ _, trivial⟩, hB0⟩
    (fun x a' _ => a' = { tmps := #[.slice none 0 0, .func (.func 53) #[] #[.pointer (some ⟨Bm, 0, none⟩)], .pointer (some ⟨w.heap.size, 0, none⟩), undef, .slice none 0 0, .string ⟨x.toArray⟩, .func (.func 53) #[] #[.pointer (some ⟨Bm, 0, none⟩)], .string ⟨x.toArray⟩, undef, undef, undef, undef, undef], defers := [] })
    (fun _ _ _ _ _ _ hs _ _ => hs)
    ?assign ?body ?done ?stop
  case assign =>
    rintro l pre x W K hi hK
    gi_wp2
    exact hK _ _ (KeepsFrom.refl _ _) (KeepsWalks.refl _) hi rfl
  case body =>
    rintro l pre x a' W hl ⟨r, hr⟩ ⟨⟨v, hv, hrow, _⟩, hB⟩ rfl hlt
    have hcv := hv.cell
    gi_wp2_with (gi_at_builtin; refine wpListIn_append_own _ rfl _ _ 51 rfl w.heap.size 9 i0 (.string ⟨#[]⟩) 1 16 Try.underlying51 hi0 hz0 hz1 hz2 rfl (by decide) _ _ _ rfl (hrow.alloc _) ⟨W.heap.size, 0, none⟩ 1 1 [.string ⟨x.toArray⟩] rfl rfl (cell_one_new _ _ _) (by simp [Value.oneCell', Str]) (by unfold maxLen; omega) (by omega) (by have := hB.size; simp; omega) ?_; intro v' w1 hown' hgrow _; obtain ⟨g', cap', rfl⟩ := ownsRow_succ hown'; obtain ⟨hv1, hv2, hr2, hk2, hb2⟩ := hv.appended (by decide) hrow hB.size (Nat.le_refl _) hown' hgrow; have hc1 := hv1.cell; have hf1 := hv1.frozen)
    exact ⟨hk2.from _, hk2.walks, ⟨_, hv2, by rw [flatS_append]; simpa [flatS, Str] using hr2, trivial⟩, hB.trans hb2⟩
  case done =>
    rintro D ys W hD hS ⟨⟨v, hv, hrow, _⟩, hB⟩ hK
    have hcv := hv.cell
    gi_wp2
    refine ⟨by simp, .inl ⟨_, _, rfl, run_takeDeferred hK, ?_⟩⟩
    exact ⟨_, results_tmp rfl _ _ _, v, ys, rfl, hS, ownsRow_putObj hrow _ hK rfl, hB.trans (belowK_b (w := w) (Nat.le_refl _) W D _ _ (by omega) hK rfl rfl)⟩
  case stop =>
    rintro D c pre W _ _ h _
    exact h.elim
set_option maxRecDepth 100000 in
set_option maxHeartbeats 1600000 in
theorem colS_any (Bm mb : Nat) (L : List ((List UInt8) × Int)) (w : World) (hc : w.cell? ⟨Bm, 0, none⟩ = some (.map (some mb))) (hM : HMap MH w mb L) (hL : L.length ≤ 100000) :
    Calls Try.prog 51 #[.func (.func 53) #[] #[.pointer (some ⟨Bm, 0, none⟩)]] w fun e W' => ∃ v ys, e = .returned v ∧ ys.Perm (L.map (·.1)) ∧ W'.ownsRow w.heap.size 9 1 v ys.length (flatS ys) ∧ Below w.heap.size w W' := by
  have HA : Hid (Calls Try.prog 64 #[.slice none 0 0, .func (.func 53) #[] #[.pointer (some ⟨Bm, 0, none⟩)]] w _) := (callsIn_wide (n := 3)).1 (apsS_in Fence.wide 3 trivial trivial rfl (Nat.le_refl _) Bm mb L w hc hM hL)
  clear hc hM hL
  go_enter Try.func51, Try.ntmps51
  go_wp2_with fail
  refine Calls.mono HA.out ?_
  rintro e w2 ⟨v, ys, rfl, hp, hr, hb⟩
  have HP : Hid (ys.Perm (L.map (·.1))) := hp
  have HR : Hid (World.ownsRow w2 w.heap.size 9 1 v ys.length (flatS ys)) := hr
  have HB : Hid _ := hb
  clear hp hr hb
  go_wp2_with fail
  go_ret
  exact ⟨v, ys, rfl, HP.out, HR.out, HB.out⟩
theorem keysS_any (mb : Nat) (w : World) : Calls Try.prog 41 #[.map (some mb)] w fun e w' => e = .returned (.func (.func 53) #[] #[.pointer (some ⟨w.heap.size, 0, none⟩)]) ∧ w' = w.alloc (.cells #[.map (some mb)] 69) :=
  (callsIn_wide (n := 3)).1 (keysS_in Fence.wide 3 trivial rfl mb w)
end Go.Proofs.Ytbjlaloofpdbfaa
