import Derived.Test.YtadfmnlkfcigoaaCm0
import Derived.RangeFuncNested
import Derived.RangeFuncBound
import Derived.RangeFuncCalls
import Derived.RangeFuncLeaves
import Derived.RangeFuncBox
import Derived.Shelf.Abstract
import Derived.Shelf.RegionOpen
import Derived.WalkKit
import Derived.OwnWalkIn
import Derived.TacticsInMore
import Derived.LoopNIn
import Derived.LoopIn
import Derived.Maps.AppendAt
import Derived.Shelf.SlSortCmp.NoneTotal
import Derived.Shelf.SlGeneric
import Derived.Ground.SlsfProg
namespace Go.Proofs.Ytadfmnlkfcigoaa
open Go.RowKit Go.PlainAid Go.MapKept
def rngLeft (w : World) (mb r : Nat) : Nat :=
  match w.heap[mb]?, w.heap[r]? with
  | some (.map es _), some (.mapIter _ _ seen _) => (leftOf es seen).size
  | _, _ => 0
section
variable {K V : Type} [DecidableEq K] {M : ML K V}
theorem Rng.left {w : World} {mb r : Nat} {L D T : List (K × V)} (h : Rng M w mb r L D T) : rngLeft w mb r = T.length := by
  obtain ⟨es, c, s, sn, c0, hb, hs, he, hr, hold, hsc, hsk, hl, hp⟩ := h
  simp only [rngLeft, hb, hr]
  simpa using congrArg List.length hl
theorem Rng.next2 {w : World} {mb r : Nat} {L D T : List (K × V)} (h : Rng M w mb r L D T) :
    (T = [] ∧ ∀ ty, (Instr.next (.pointer (some ⟨r, 0, none⟩)) false ty).run Try.prog w = .ok (.tuple #[.bool false]) w) ∨
    ∃ x T' w', (∀ ty, (Instr.next (.pointer (some ⟨r, 0, none⟩)) false ty).run Try.prog w = .ok (.tuple #[.bool true, M.kE x.1, M.vE x.2]) w') ∧ (Instr.entry (.pointer (some ⟨r, 0, none⟩))).run Try.prog w' = .ok (.tuple #[M.kE x.1, M.vE x.2]) w' ∧
      Rng M w' mb r L (D ++ [x]) T' ∧ T'.length < T.length ∧ Chg (fun k => k = r) w w' ∧ w'.heap.size = w.heap.size := by
  rcases h.next 0 with ⟨h1, h2⟩ | ⟨x, T', w', h1, h2⟩
  · exact Or.inl ⟨h1, fun ty => h2⟩
  · exact Or.inr ⟨x, T', w', fun ty => h1, h2⟩
end
end Go.Proofs.Ytadfmnlkfcigoaa
namespace Go.Proofs.Ytadfmnlkfcigoaa
open Go.RowKit Go.PlainAid Go.MapKept Go.Shelf
set_option linter.unusedVariables false
set_option linter.unusedSimpArgs false
attribute [local go_sem] Oper.semAt_some
section
variable {K V : Type} [DecidableEq K] {M : ML K V}
theorem Chg.grown {w w' : World} {r : Nat} (h : Chg (fun k => k = r) w w') : w.grownBy w' (some r) := by
  obtain ⟨a, b, c, d, e⟩ := h
  exact ⟨a, b, c, d, fun k hk hn => e k hk (fun q => hn (by rw [q]))⟩
theorem HMap.range3 {w : World} {mb : Nat} {L : List (K × V)} (h : HMap M w mb L) :
    ∃ o : Obj, o.isWalk = true ∧ (Instr.range M.tm (.map (some mb))).run Try.prog w = .ok (.pointer (some ⟨w.heap.size, 0, none⟩)) (w.alloc o) ∧ Rng M (w.alloc o) mb w.heap.size L [] L := by
  have hlt := h.lt
  obtain ⟨es, c, hb, hs, he⟩ := h
  refine ⟨_, rfl, run_range_map w M.tm M.tk M.tv mb es c M.under hb, es, c, c, #[], c, ((MapKept.heap_alloc w _).2 mb hlt).trans hb, hs, he, (MapKept.heap_alloc w _).1, hs.1, Nat.le_refl _, Nat.le_refl _, ?_, by simp⟩
  rw [← he]
  have e0 : (leftOf es #[]).toList = es.toList := by
    simp only [leftOf, Array.toList_filter]
    exact List.filter_eq_self.2 (fun x _ => by simp)
  rw [e0]
theorem Rng.walks {w w' : World} {mb r : Nat} {L D T : List (K × V)} (h : Rng M w mb r L D T) (hk : KeepsWalks w w') : Rng M w' mb r L D T := by
  obtain ⟨es, c, s, sn, c0, a, b, d, e, f⟩ := h
  exact ⟨es, c, s, sn, c0, hk.same mb _ a rfl, b, d, hk.same r _ e rfl, f⟩
theorem Rng.isW {w : World} {mb r : Nat} {L D T : List (K × V)} (h : Rng M w mb r L D T) : ∃ o : Obj, w.heap[r]? = some o ∧ o.isWalk = true := by
  obtain ⟨es, c, s, sn, c0, a, b, d, e, f⟩ := h
  exact ⟨_, e, rfl⟩
theorem Rng.len {w : World} {mb r : Nat} {L D T : List (K × V)} (h : Rng M w mb r L D T) : D.length + T.length = L.length := by
  have := h.perm.length_eq
  simpa using this
end
set_option maxRecDepth 100000 in
set_option maxHeartbeats 1600000 in
theorem keysC1 (F : Fence) (n : Nat) (hf : F.fn 44) (hro : F.round = none) (hn : 1 ≤ n) (l Bm mb : Nat) (L : List ((Int × Int) × Unit)) (J Jx : List (Int × Int) → World → Prop) (W : World) (hJ : AbidesFrom W.heap.size J)
    (hY : ∀ pre x W1, J pre W1 → pre.length < L.length → YieldAt F (n - 1) Try.prog l #[callV x] W1 fun e W' => (e = .returned (.bool true) ∧ J (pre ++ [x]) W' ∧ KeepsWalks W1 W') ∨ (e = .returned (.bool false) ∧ Jx (pre ++ [x]) W'))
    (hm : W.cell? ⟨Bm, 0, none⟩ = some (.map (some mb))) (hM : HMap MP W mb L) (h0 : J [] W) :
    CallsIn F n Try.prog 44 #[.func (.yield l) #[] #[], .pointer (some ⟨Bm, 0, none⟩)] W fun e W' => (∃ v, e = .returned v) ∧ ((∃ ys, ys.Perm (L.map (·.1)) ∧ J ys W') ∨ (∃ pre, True ∧ Jx pre W')) := by
  obtain ⟨o, how, hrg, hR⟩ := hM.range3
  replace hrg : (Instr.range 59 (.map (some mb))).run Try.prog W = .ok (.pointer (some ⟨W.heap.size, 0, none⟩)) (W.alloc o) := hrg
  have HR : Hid _ := hR
  have HJ0 : Hid (J [] (W.alloc o)) := hJ [] W _ none h0 (World.grownBy_alloc W o none) (fun r e => by cases e)
  clear hR hM h0
  refine callsIn_of_wp Try.func44 rfl hf ?_ hro
  simp only [Try.ntmps44, List.size_toArray, List.length_cons, List.length_nil, Nat.reduceAdd, Nat.reduceSub, Array.replicate_succ, Array.replicate_zero, List.push_toArray, List.append_toArray, List.nil_append, List.cons_append]
  gi_wp2
  gi_loopw [3] (fun _ wr => ∃ D T, Rng MP wr mb W.heap.size L D T ∧ J (D.map (·.1)) wr) (fun _ wr => rngLeft wr mb W.heap.size)
  case atStart => exact ⟨[], L, HR.out, HJ0.out⟩
  case round =>
    obtain ⟨D, T, hRr, hJr⟩ := hrel
    clear HR HJ0
    rcases hRr.next2 with ⟨hT, hnx⟩ | ⟨x, T', w2, hnx, hen, hr2, hlt2, hst2, hsz2⟩
    · have hp : (D.map (·.1)).Perm (L.map (·.1)) := by
        have := hRr.perm
        rw [hT, List.append_nil] at this
        exact this.map _
      have HP : Hid _ := hp
      have HJr : Hid _ := hJr
      clear hp hJr hRr hT
      gi_wp2
      go_end0
      exact ⟨⟨_, rfl⟩, .inl ⟨_, HP.out, HJr.out⟩⟩
    · replace hnx : ∀ ty, (Instr.next (.pointer (some ⟨W.heap.size, 0, none⟩)) false ty).run Try.prog wr = .ok (.tuple #[.bool true, .agg #[.int .i64 x.1.1, .int .i64 x.1.2], .agg #[]]) w2 := hnx
      replace hen : (Instr.entry (.pointer (some ⟨W.heap.size, 0, none⟩))).run Try.prog w2 = .ok (.tuple #[.agg #[.int .i64 x.1.1, .int .i64 x.1.2], .agg #[]]) w2 := hen
      have hJ2 : J (D.map (·.1)) w2 := hJ _ wr w2 (some W.heap.size) hJr hst2.grown (fun r e => by cases e; exact ⟨Nat.le_refl _, hRr.isW⟩)
      have hJ3 : J (D.map (·.1)) (w2.alloc (.cells #[.int .i64 x.1.1, .int .i64 x.1.2] 32)) := hJ _ w2 _ none hJ2 (World.grownBy_alloc w2 _ none) (fun r e => by cases e)
      have hlen : (D.map (·.1)).length < L.length := by
        have h1 := hr2.len
        simp at h1 ⊢
        omega
      obtain ⟨fn, tmps, assign, body, hy, hYR⟩ := hY _ x.1 _ hJ3 hlen
      unfold callV at hy
      have hr3 : Rng MP (w2.alloc (.cells #[.int .i64 x.1.1, .int .i64 x.1.2] 32)) mb W.heap.size L (D ++ [x]) T' := hr2.walks (KeepsWalks.alloc w2 _)
      have HR3 : Hid (Rng MP (w2.alloc (.cells #[.int .i64 x.1.1, .int .i64 x.1.2] 32)) mb W.heap.size L (D ++ [x]) T') := hr3
      have HLF : Hid (T'.length < rngLeft wr mb W.heap.size) := show T'.length < rngLeft wr mb W.heap.size from by rw [hRr.left]; exact hlt2
      have HMP : Hid ((D ++ [x]).map (·.1) = D.map (·.1) ++ [x.1]) := show (D ++ [x]).map (·.1) = D.map (·.1) ++ [x.1] from by simp
      have HYR : Hid _ := hYR
      clear hst2 hsz2 hr2 hr3 hlt2 hJ2 hJ3 hlen hRr hJr hY hJ hYR
      gi_wp2
      refine RoundIn.mono HYR.out ?_
      rintro e W3 (⟨rfl, hJ4, hk4⟩ | ⟨rfl, hJx4⟩)
      · have HR4 : Hid (Rng MP W3 mb W.heap.size L (D ++ [x]) T') := Rng.walks HR3.out hk4
        have HJ4 : Hid (J ((D ++ [x]).map (·.1)) W3) := show J ((D ++ [x]).map (·.1)) W3 from by rw [HMP.out]; exact hJ4
        clear hJ4 hk4 HR3 hnx hen hy
        gi_wp2
        go_roundw
        case rel => exact ⟨D ++ [x], T', HR4.out, HJ4.out⟩
        case measure => rw [Rng.left HR4.out]; exact HLF.out
      · have HX : Hid _ := hJx4
        clear hJx4 HR3 hnx hen hy
        gi_wp2
        refine bodyPost_ret (results_none rfl _ _ _) rfl ?_
        exact ⟨⟨_, rfl⟩, .inr ⟨_, trivial, HX.out⟩⟩
theorem keysC_stops (F : Fence) (n : Nat) (hf : F.fn 44) (hro : F.round = none) (hn : 1 ≤ n) (Bm mb : Nat) (L : List ((Int × Int) × Unit)) (w : World) (hc : w.cell? ⟨Bm, 0, none⟩ = some (.map (some mb))) (hM : HMap MP w mb L) :
    SeqStopsK F n Try.prog 44 #[.pointer (some ⟨Bm, 0, none⟩)] (fun x : Int × Int => #[callV x]) KeepsWalks (fun ys => ys.Perm (L.map (·.1))) (fun _ => True) L.length w := fun l J Jx W hW hJ _ hY h0 =>
  keysC1 F n hf hro hn l Bm mb L J Jx W hJ hY ((hW.cell (p := ⟨Bm, 0, none⟩) (World.block_lt_of_cell? w _ hc)).trans hc) (hM.same (hW.block mb hM.lt)) h0
set_option maxHeartbeats 1000000 in
theorem keysC_in (F : Fence) (n : Nat) (hf : F.fn 40) (hro : F.round = none) (mb : Nat) (w : World) :
    CallsIn F n Try.prog 40 #[.map (some mb)] w fun e w' => e = .returned (.func (.func 44) #[] #[.pointer (some ⟨w.heap.size, 0, none⟩)]) ∧ w' = w.alloc (.cells #[.map (some mb)] 59) := by
  refine callsIn_of_wp Try.func40 rfl hf ?_ hro
  simp only [Try.ntmps40, List.size_toArray, List.length_cons, List.length_nil, Nat.reduceAdd, Nat.reduceSub, Array.replicate_succ, Array.replicate_zero, List.push_toArray, List.append_toArray, List.nil_append, List.cons_append]
  gi_wp2
  go_ret
  exact ⟨rfl, rfl⟩
end Go.Proofs.Ytadfmnlkfcigoaa
namespace Go.Proofs.Ytadfmnlkfcigoaa
open Go.RowKit Go.PlainAid Go.MapKept Go.Shelf
set_option linter.unusedVariables false
set_option linter.unusedSimpArgs false
attribute [local go_sem] Oper.semAt_some
def flatC (ys : List (Int × Int)) : List Value := ys.flatMap fun c => [.int .i64 c.1, .int .i64 c.2]
theorem flatC_append (a b : List (Int × Int)) : flatC (a ++ b) = flatC a ++ flatC b := by simp [flatC]
theorem info32 : (Try.prog.info? 32).map (fun i => (i.zero, i.size, i.bytes)) = some (some (.agg #[.int .i64 0, .int .i64 0]), 2, 16) := by kernel_rfl
theorem cell_two_new' (W : World) (a b : Value) (t : TypeId) : ∀ j u, [a, b][j]? = some u → (W.alloc (.cells #[a, b] t)).cell? ((⟨W.heap.size, 0, none⟩ : Addr).add j) = some u := fun j u hu => by
  rw [addr_add, Nat.zero_add]
  have hB : Blk (W.alloc (.cells #[a, b] t)) W.heap.size #[a, b] t := heap_alloc_new W _
  rw [hB.cell j]
  simpa using hu
theorem blk_own (b : Nat) (C : Array Value) (T : TypeId) : Own (fun (_ : Unit) W => Blk W b C T) := fun s X Y row hs hg hrow => by
  have hne : some b ≠ row := fun e => by
    obtain ⟨o, ho, hc⟩ := hrow b e.symm
    rw [show X.heap[b]? = _ from hs] at ho
    cases ho
    cases hc
  exact (hg.block b (Array.getElem?_eq_some_iff.1 hs).1 hne).trans hs
set_option maxRecDepth 100000 in
set_option maxHeartbeats 1600000 in
theorem apsC_in (F : Fence) (n : Nat) (hf : F.fn 47) (hi : F.fn 44) (hro : F.round = none) (hn : 3 ≤ n) (Bm mb : Nat) (L : List ((Int × Int) × Unit)) (w : World) (hc : w.cell? ⟨Bm, 0, none⟩ = some (.map (some mb))) (hM : HMap MP w mb L) (hL : L.length ≤ 100000) :
    CallsIn F n Try.prog 47 #[.slice none 0 0, .func (.func 44) #[] #[.pointer (some ⟨Bm, 0, none⟩)]] w fun e W' => ∃ v ys, e = .returned v ∧ ys.Perm (L.map (·.1)) ∧ W'.ownsRow w.heap.size 32 2 v ys.length (flatC ys) ∧ Below w.heap.size w W' := by
  have h1 : 1 ≤ n := by omega
  obtain ⟨i0, hi0, hz0, hz1, hz2⟩ := info_parts info32
  refine callsIn_of_wp_marks Try.func47 rfl hf ?_ hro
  simp only [Try.ntmps47, List.size_toArray, List.length_cons, List.length_nil, Nat.reduceAdd, Nat.reduceSub, Array.replicate_succ, Array.replicate_zero, List.push_toArray, List.append_toArray, List.nil_append, List.cons_append]
  gi_wp2
  have bO := Boxed.new w 79 (.slice none 0 0)
  have hB0 : Below w.heap.size w (w.alloc (.cells #[.slice none 0 0] 79)) := (Below.refl _ w).alloc (Nat.le_refl _) _
  have hsz : (w.alloc (.cells #[.slice none 0 0] 79)).heap.size = w.heap.size + 1 := by simp
  have hc0 : (w.alloc (.cells #[.slice none 0 0] 79)).cell? ⟨Bm, 0, none⟩ = some (.map (some mb)) := (hB0.cell (p := ⟨Bm, 0, none⟩) (World.block_lt_of_cell? w _ hc)).trans hc
  have hM0 : HMap MP (w.alloc (.cells #[.slice none 0 0] 79)) mb L := hM.same (hB0.block mb hM.lt)
  obtain ⟨W0, hW0⟩ : ∃ W0, w.alloc (.cells #[.slice none 0 0] 79) = W0 := ⟨_, rfl⟩
  rw [hW0] at bO hB0 hsz hc0 hM0 ⊢
  clear hW0
  refine wpIn_rangeFunc_ownH hro h1 (gf := 44) (lb := #[.pointer (some ⟨Bm, 0, none⟩)]) rfl hi (enters_of Try.func44 (by kernel_rfl) rfl)
    (keysC_stops F (n - 1) hi hro (by omega) Bm mb L W0 hc0 hM0) walksK_t walksK_b (Below.refl _ _) (fun _ => rfl)
    (fun pre W => (∃ v, Boxed W w.heap.size 79 v ∧ W.ownsRow w.heap.size 32 2 v pre.length (flatC pre) ∧ True) ∧ Below w.heap.size w W)
    (fun _ _ _ => False)
    (OwnFrom.and (Own.from (holdsRow_own w.heap.size w.heap.size 79 32 2 (fun pre => pre.length) flatC (fun _ _ => True)) _) (ownFrom_below (Nat.le_refl _) (by omega)))
    (fun _ _ _ _ _ hs _ _ => hs)
    ⟨⟨_, bO, World.ownsRow_nil _ _ _ _, trivial⟩, hB0⟩
    (fun x a' W => ∃ Bx, w.heap.size < Bx ∧ Blk W Bx #[.int .i64 x.1, .int .i64 x.2] 32 ∧ a' = { tmps := #[.slice none 0 0, .func (.func 44) #[] #[.pointer (some ⟨Bm, 0, none⟩)], .pointer (some ⟨w.heap.size, 0, none⟩), undef, .slice none 0 0, .pointer (some ⟨Bx, 0, none⟩), .func (.func 44) #[] #[.pointer (some ⟨Bm, 0, none⟩)], callV x, undef, undef, undef, undef, undef], defers := [] })
    (fun x a' _ X Y row hs hg hr => by obtain ⟨Bx, h1, h2, h3⟩ := hs; exact ⟨Bx, h1, blk_own Bx _ 32 () X Y row h2 hg (fun r e => (hr r e).2), h3⟩)
    ?assign ?body ?done ?stop
  case assign =>
    rintro l pre x W K ⟨⟨v1, b1, r1, _⟩, hB1⟩ hK
    unfold callV at hK ⊢
    gi_wp2
    exact hK _ _ ((KeepsOthers.alloc _ _).from _) (KeepsWalks.alloc _ _) ⟨⟨v1, b1.alloc _, r1.alloc _, trivial⟩, hB1.alloc hB1.size _⟩ ⟨W.heap.size, b1.lt, heap_alloc_new W _, rfl⟩
  case body =>
    rintro l pre x a' W hl ⟨r, hr⟩ ⟨⟨v, hv, hrow, _⟩, hB⟩ ⟨Bx, hBx, bX, rfl⟩ hlt
    have hcv := hv.cell
    have x0 : W.cell? ⟨Bx, 0, none⟩ = some (.int .i64 x.1) := bX.cell 0
    have x1 : W.cell? ⟨Bx, 1, none⟩ = some (.int .i64 x.2) := bX.cell 1
    gi_wp2_with (gi_at_builtin; refine wpListIn_append_own _ rfl _ _ 79 rfl w.heap.size 32 i0 (.agg #[.int .i64 0, .int .i64 0]) 2 16 Try.underlying79 hi0 hz0 hz1 hz2 rfl (by decide) _ _ _ rfl (hrow.alloc _) ⟨W.heap.size, 0, none⟩ 1 1 [.int .i64 x.1, .int .i64 x.2] rfl rfl (cell_two_new' _ _ _ _) (by simp [Value.oneCell']) (by unfold maxLen; omega) (by omega) (by have := hB.size; simp; omega) ?_; intro v' w1 hown' hgrow _; obtain ⟨g', cap', rfl⟩ := ownsRow_succ hown'; obtain ⟨hv1, hv2, hr2, hk2, hb2⟩ := hv.appended (by decide) hrow hB.size (Nat.le_refl _) hown' hgrow; have hc1 := hv1.cell; have hf1 := hv1.frozen)
    exact ⟨hk2.from _, hk2.walks, ⟨_, hv2, by rw [flatC_append]; simpa [flatC] using hr2, trivial⟩, hB.trans hb2⟩
  case done =>
    rintro D ys W hD hS ⟨⟨v, hv, hrow, _⟩, hB⟩ hK
    have hcv := hv.cell
    gi_wp2
    refine ⟨by simp, .inl ⟨_, _, rfl, run_takeDeferred hK, ?_⟩⟩
    exact ⟨_, results_tmp rfl _ _ _, v, ys, rfl, hS, ownsRow_putObj hrow _ hK rfl, hB.trans (belowK_b (w := w) (Nat.le_refl _) W D _ _ (by omega) hK rfl rfl)⟩
  case stop =>
    rintro D c pre W _ _ h _
    exact h.elim
set_option maxRecDepth 100000 in
set_option maxHeartbeats 1600000 in
theorem colC_any (Bm mb : Nat) (L : List ((Int × Int) × Unit)) (w : World) (hc : w.cell? ⟨Bm, 0, none⟩ = some (.map (some mb))) (hM : HMap MP w mb L) (hL : L.length ≤ 100000) :
    Calls Try.prog 42 #[.func (.func 44) #[] #[.pointer (some ⟨Bm, 0, none⟩)]] w fun e W' => ∃ v ys, e = .returned v ∧ ys.Perm (L.map (·.1)) ∧ W'.ownsRow w.heap.size 32 2 v ys.length (flatC ys) ∧ Below w.heap.size w W' := by
  have HA : Hid (Calls Try.prog 47 #[.slice none 0 0, .func (.func 44) #[] #[.pointer (some ⟨Bm, 0, none⟩)]] w _) := (callsIn_wide (n := 3)).1 (apsC_in Fence.wide 3 trivial trivial rfl (Nat.le_refl _) Bm mb L w hc hM hL)
  clear hc hM hL
  go_enter Try.func42, Try.ntmps42
  go_wp2_with fail
  refine Calls.mono HA.out ?_
  rintro e w2 ⟨v, ys, rfl, hp, hr, hb⟩
  have HP : Hid (ys.Perm (L.map (·.1))) := hp
  have HR : Hid (World.ownsRow w2 w.heap.size 32 2 v ys.length (flatC ys)) := hr
  have HB : Hid _ := hb
  clear hp hr hb
  go_wp2_with fail
  go_ret
  exact ⟨v, ys, rfl, HP.out, HR.out, HB.out⟩
theorem keysC_any (mb : Nat) (w : World) : Calls Try.prog 40 #[.map (some mb)] w fun e w' => e = .returned (.func (.func 44) #[] #[.pointer (some ⟨w.heap.size, 0, none⟩)]) ∧ w' = w.alloc (.cells #[.map (some mb)] 59) :=
  (callsIn_wide (n := 3)).1 (keysC_in Fence.wide 3 trivial rfl mb w)
end Go.Proofs.Ytadfmnlkfcigoaa
namespace Go.Proofs.Ytadfmnlkfcigoaa
open Go.Shelf
def sortC_ren : Go.Shelf.Ren := ⟨fun | 6 => 43 | 15 => 49 | 14 => 48 | 28 => 59 | 29 => 60 | 20 => 51 | 21 => 52 | 22 => 53 | 23 => 54 | 24 => 55 | 25 => 56 | 26 => 57 | 27 => 58 | 46 => 61 | 47 => 62 | 48 => 63 | 49 => 64 | 50 => 65 | 57 => 66 | n => n, fun | 22 => 79 | 24 => 32 | 25 => 100 | 3 => 3 | 39 => 107 | 0 => 0 | 53 => 117 | 55 => 119 | 4 => 4 | 46 => 110 | 45 => 109 | 50 => 114 | 5 => 5 | 9 => 9 | 66 => 120 | 70 => 124 | 76 => 126 | 77 => 127 | n => n, fun | n => n⟩
theorem sortC : Go.Proofs.SlLaysF0.n6 Try.prog sortC_ren := {
  mixed := by kernel_rfl
  f6 := ⟨Try.f43.name, by decide, Try.func43.trans (congrArg some (by kernel_rfl))⟩
  f14 := ⟨Try.f48.name, by decide, Try.func48.trans (congrArg some (by kernel_rfl))⟩
  f15 := Try.func49.trans (congrArg some (by kernel_rfl))
  f20 := ⟨Try.f51.name, by decide, Try.func51.trans (congrArg some (by kernel_rfl))⟩
  f21 := ⟨Try.f52.name, by decide, Try.func52.trans (congrArg some (by kernel_rfl))⟩
  f22 := ⟨Try.f53.name, by decide, Try.func53.trans (congrArg some (by kernel_rfl))⟩
  f23 := ⟨Try.f54.name, by decide, Try.func54.trans (congrArg some (by kernel_rfl))⟩
  f24 := ⟨Try.f55.name, by decide, Try.func55.trans (congrArg some (by kernel_rfl))⟩
  f25 := ⟨Try.f56.name, by decide, Try.func56.trans (congrArg some (by kernel_rfl))⟩
  f26 := ⟨Try.f57.name, by decide, Try.func57.trans (congrArg some (by kernel_rfl))⟩
  f27 := ⟨Try.f58.name, by decide, Try.func58.trans (congrArg some (by kernel_rfl))⟩
  f28 := Try.func59.trans (congrArg some (by kernel_rfl))
  f29 := Try.func60.trans (congrArg some (by kernel_rfl))
  f46 := ⟨Try.f61.name, by decide, Try.func61.trans (congrArg some (by kernel_rfl))⟩
  f47 := Try.func62.trans (congrArg some (by kernel_rfl))
  f48 := Try.func63.trans (congrArg some (by kernel_rfl))
  f49 := ⟨Try.f64.name, by decide, Try.func64.trans (congrArg some (by kernel_rfl))⟩
  f50 := ⟨Try.f65.name, by decide, Try.func65.trans (congrArg some (by kernel_rfl))⟩
  f57 := ⟨Try.f66.name, by decide, Try.func66.trans (congrArg some (by kernel_rfl))⟩
  t0 := Try.underlying0
  a0 := Try.isAgg0
  z0 := Try.sizeOf0
  v0 := Try.zeroValue0
  t3 := Try.underlying3
  a3 := Try.isAgg3
  z3 := Try.sizeOf3
  v3 := Try.zeroValue3
  t4 := Try.underlying4
  a4 := Try.isAgg4
  z4 := Try.sizeOf4
  v4 := Try.zeroValue4
  t5 := Try.underlying5
  a5 := Try.isAgg5
  z5 := Try.sizeOf5
  v5 := Try.zeroValue5
  t9 := Try.underlying9
  a9 := Try.isAgg9
  z9 := Try.sizeOf9
  v9 := Try.zeroValue9
  t22 := Try.underlying79
  a22 := Try.isAgg79
  z22 := Try.sizeOf79
  v22 := Try.zeroValue79
  t25 := Try.underlying100
  a25 := Try.isAgg100
  z25 := Try.sizeOf100
  v25 := Try.zeroValue100
  t39 := Try.underlying107
  a39 := Try.isAgg107
  z39 := Try.sizeOf107
  v39 := Try.zeroValue107
  t45 := Try.underlying109
  a45 := Try.isAgg109
  z45 := Try.sizeOf109
  v45 := Try.zeroValue109
  t46 := Try.underlying110
  a46 := Try.isAgg110
  z46 := Try.sizeOf110
  v46 := Try.zeroValue110
  t50 := Try.underlying114
  a50 := Try.isAgg114
  z50 := Try.sizeOf114
  v50 := Try.zeroValue114
  t53 := Try.underlying117
  a53 := Try.isAgg117
  z53 := Try.sizeOf117
  v53 := Try.zeroValue117
  t55 := Try.underlying119
  a55 := Try.isAgg119
  z55 := Try.sizeOf119
  v55 := Try.zeroValue119
  t66 := Try.underlying120
  a66 := Try.isAgg120
  z66 := Try.sizeOf120
  v66 := Try.zeroValue120
  t70 := Try.underlying124
  a70 := Try.isAgg124
  z70 := Try.sizeOf124
  v70 := Try.zeroValue124
  t76 := Try.underlying126
  a76 := Try.isAgg126
  z76 := Try.sizeOf126
  v76 := Try.zeroValue126
  t77 := Try.underlying127
  a77 := Try.isAgg127
  z77 := Try.sizeOf127
  v77 := Try.zeroValue127 }
end Go.Proofs.Ytadfmnlkfcigoaa
