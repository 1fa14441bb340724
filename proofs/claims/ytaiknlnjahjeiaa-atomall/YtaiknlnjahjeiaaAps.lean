import Derived.Test.YtaiknlnjahjeiaaIt
import Derived.Test.YtaiknlnjahjeiaaJoinA
import Derived.RangeFuncNested
import Derived.RangeFuncBound
import Derived.RangeFuncCalls
import Derived.RangeFuncLeaves
import Derived.RangeFuncBox
import Derived.Shelf.Abstract
import Derived.Shelf.RegionOpen
import Derived.WalkKit
import Derived.OwnWalkIn
import Derived.TacticsInMore
import Derived.LoopNIn
import Derived.LoopIn
import Derived.Maps.AppendAt
namespace Go.Proofs.Ytaiknlnjahjeiaa
open Go.RowKit Go.PlainAid Go.MapKept Go.Shelf
set_option linter.unusedVariables false
set_option linter.unusedSimpArgs false
attribute [local go_sem] Oper.semAt_some
def flatS (ys : List (List UInt8)) : List Value := ys.map Str
theorem flatS_append (a b : List (List UInt8)) : flatS (a ++ b) = flatS a ++ flatS b := by simp [flatS]
theorem blk_own (b : Nat) (C : Array Value) (T : TypeId) : Own (fun (_ : Unit) W => Blk W b C T) := fun s X Y row hs hg hrow => by
  have hne : some b ≠ row := fun e => by
    obtain ⟨o, ho, hc⟩ := hrow b e.symm
    rw [show X.heap[b]? = _ from hs] at ho
    cases ho
    cases hc
  exact (hg.block b (Array.getElem?_eq_some_iff.1 hs).1 hne).trans hs
set_option maxRecDepth 100000 in
set_option maxHeartbeats 1600000 in
theorem apsS_in (F : Fence) (n : Nat) (hf : F.fn 82) (hi : F.fn 81) (hro : F.round = none) (hn : 3 ≤ n) (Bm mb : Nat) (L : List ((List UInt8) × Ct)) (w : World) (hc : w.cell? ⟨Bm, 0, none⟩ = some (.map (some mb))) (hM : Gm.HMap MC w mb L) (hL : L.length ≤ 100000) :
    CallsIn F n Try.prog 82 #[.slice none 0 0, .func (.func 81) #[] #[.pointer (some ⟨Bm, 0, none⟩)]] w fun e W' => ∃ v ys, e = .returned v ∧ ys.Perm (L.map (·.1)) ∧ W'.ownsRow w.heap.size 9 1 v ys.length (flatS ys) ∧ Below w.heap.size w W' := by
  have h1 : 1 ≤ n := by omega
  obtain ⟨i0, hi0, hz0, hz1, hz2⟩ := info_parts info9
  refine callsIn_of_wp_marks Try.func82 rfl hf ?_ hro
  simp only [Try.ntmps82, List.size_toArray, List.length_cons, List.length_nil, Nat.reduceAdd, Nat.reduceSub, Array.replicate_succ, Array.replicate_zero, List.push_toArray, List.append_toArray, List.nil_append, List.cons_append]
  gi_wp2
  have bO := Boxed.new w 39 (.slice none 0 0)
  have hB0 : Below w.heap.size w (w.alloc (.cells #[.slice none 0 0] 39)) := (Below.refl _ w).alloc (Nat.le_refl _) _
  have hsz : (w.alloc (.cells #[.slice none 0 0] 39)).heap.size = w.heap.size + 1 := by simp
  have hc0 : (w.alloc (.cells #[.slice none 0 0] 39)).cell? ⟨Bm, 0, none⟩ = some (.map (some mb)) := (hB0.cell (p := ⟨Bm, 0, none⟩) (World.block_lt_of_cell? w _ hc)).trans hc
  have hM0 : Gm.HMap MC (w.alloc (.cells #[.slice none 0 0] 39)) mb L := hM.same (hB0.block mb hM.lt)
  obtain ⟨W0, hW0⟩ : ∃ W0, w.alloc (.cells #[.slice none 0 0] 39) = W0 := ⟨_, rfl⟩
  rw [hW0] at bO hB0 hsz hc0 hM0 ⊢
  clear hW0
  refine wpIn_rangeFunc_ownH hro h1 (gf := 81) (lb := #[.pointer (some ⟨Bm, 0, none⟩)]) rfl hi (enters_of Try.func81 (by kernel_rfl) rfl)
    (keysS_stops F (n - 1) hi hro (by omega) Bm mb L W0 hc0 hM0) walksK_t walksK_b (Below.refl _ _) (fun _ => rfl)
    (fun pre W => (∃ v, Boxed W w.heap.size 39 v ∧ W.ownsRow w.heap.size 9 1 v pre.length (flatS pre) ∧ True) ∧ Below w.heap.size w W)
    (fun _ _ _ => False)
    (OwnFrom.and (Own.from (holdsRow_own w.heap.size w.heap.size 39 9 1 (fun pre => pre.length) flatS (fun _ _ => True)) _) (ownFrom_below (Nat.le_refl _) (by omega)))
    (fun _ _ _ _ _ hs _ _ => hs)
    ⟨⟨_, bO, World.ownsRow_nil _ _ _ _, trivial⟩, hB0⟩
    (fun x a' _ => a' = { tmps := #[.slice none 0 0, .func (.func 81) #[] #[.pointer (some ⟨Bm, 0, none⟩)], .pointer (some ⟨w.heap.size, 0, none⟩), undef, .slice none 0 0, .string ⟨x.toArray⟩, .func (.func 81) #[] #[.pointer (some ⟨Bm, 0, none⟩)], .string ⟨x.toArray⟩, undef, undef, undef, undef, undef], defers := [] })
    (fun _ _ _ _ _ _ hs _ _ => hs)
    ?assign ?body ?done ?stop
  case assign =>
    rintro l pre x W K hi hK
    gi_wp2
    exact hK _ _ (KeepsFrom.refl _ _) (KeepsWalks.refl _) hi rfl
  case body =>
    rintro l pre x a' W hl ⟨r, hr⟩ ⟨⟨v, hv, hrow, _⟩, hB⟩ rfl hlt
    have hcv := hv.cell
    gi_wp2_with (gi_at_builtin; refine wpListIn_append_own _ rfl _ _ 39 rfl w.heap.size 9 i0 (.string ⟨#[]⟩) 1 16 Try.underlying39 hi0 hz0 hz1 hz2 rfl (by decide) _ _ _ rfl (hrow.alloc _) ⟨W.heap.size, 0, none⟩ 1 1 [.string ⟨x.toArray⟩] rfl rfl (cell_one_new _ _ _) (by simp [Value.oneCell', Str]) (by unfold maxLen; omega) (by omega) (by have := hB.size; simp; omega) ?_; intro v' w1 hown' hgrow _; obtain ⟨g', cap', rfl⟩ := ownsRow_succ hown'; obtain ⟨hv1, hv2, hr2, hk2, hb2⟩ := hv.appended (by decide) hrow hB.size (Nat.le_refl _) hown' hgrow; have hc1 := hv1.cell; have hf1 := hv1.frozen)
    exact ⟨hk2.from _, hk2.walks, ⟨_, hv2, by rw [flatS_append]; simpa [flatS, Str] using hr2, trivial⟩, hB.trans hb2⟩
  case done =>
    rintro D ys W hD hS ⟨⟨v, hv, hrow, _⟩, hB⟩ hK
    have hcv := hv.cell
    gi_wp2
    refine ⟨by simp, .inl ⟨_, _, rfl, run_takeDeferred hK, ?_⟩⟩
    exact ⟨_, results_tmp rfl _ _ _, v, ys, rfl, hS, ownsRow_putObj hrow _ hK rfl, hB.trans (belowK_b (w := w) (Nat.le_refl _) W D _ _ (by omega) hK rfl rfl)⟩
  case stop =>
    rintro D c pre W _ _ h _
    exact h.elim
set_option maxRecDepth 100000 in
set_option maxHeartbeats 1600000 in
theorem colS_any (Bm mb : Nat) (L : List ((List UInt8) × Ct)) (w : World) (hc : w.cell? ⟨Bm, 0, none⟩ = some (.map (some mb))) (hM : Gm.HMap MC w mb L) (hL : L.length ≤ 100000) :
    Calls Try.prog 79 #[.func (.func 81) #[] #[.pointer (some ⟨Bm, 0, none⟩)]] w fun e W' => ∃ v ys, e = .returned v ∧ ys.Perm (L.map (·.1)) ∧ W'.ownsRow w.heap.size 9 1 v ys.length (flatS ys) ∧ Below w.heap.size w W' := by
  have HA : Hid (Calls Try.prog 82 #[.slice none 0 0, .func (.func 81) #[] #[.pointer (some ⟨Bm, 0, none⟩)]] w _) := (callsIn_wide (n := 3)).1 (apsS_in Fence.wide 3 trivial trivial rfl (Nat.le_refl _) Bm mb L w hc hM hL)
  clear hc hM hL
  go_enter Try.func79, Try.ntmps79
  go_wp2_with fail
  refine Calls.mono HA.out ?_
  rintro e w2 ⟨v, ys, rfl, hp, hr, hb⟩
  have HP : Hid (ys.Perm (L.map (·.1))) := hp
  have HR : Hid (World.ownsRow w2 w.heap.size 9 1 v ys.length (flatS ys)) := hr
  have HB : Hid _ := hb
  clear hp hr hb
  go_wp2_with fail
  go_ret
  exact ⟨v, ys, rfl, HP.out, HR.out, HB.out⟩
theorem keysS_any (mb : Nat) (w : World) : Calls Try.prog 63 #[.map (some mb)] w fun e w' => e = .returned (.func (.func 81) #[] #[.pointer (some ⟨w.heap.size, 0, none⟩)]) ∧ w' = w.alloc (.cells #[.map (some mb)] 57) :=
  (callsIn_wide (n := 3)).1 (keysS_in Fence.wide 3 trivial rfl mb w)
end Go.Proofs.Ytaiknlnjahjeiaa
