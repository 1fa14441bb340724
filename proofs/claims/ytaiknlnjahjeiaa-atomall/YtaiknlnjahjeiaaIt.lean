import Derived.Test.YtaiknlnjahjeiaaCp
import Derived.RangeFuncNested
import Derived.RangeFuncBound
import Derived.RangeFuncCalls
import Derived.RangeFuncLeaves
import Derived.RangeFuncBox
import Derived.Shelf.Abstract
import Derived.Shelf.RegionOpen
import Derived.WalkKit
import Derived.OwnWalkIn
import Derived.TacticsInMore
import Derived.LoopNIn
import Derived.LoopIn
import Derived.Maps.AppendAt
namespace Go.Proofs.Ytaiknlnjahjeiaa
open Go.RowKit Go.PlainAid Go.MapKept Go.Shelf
set_option linter.unusedVariables false
set_option linter.unusedSimpArgs false
attribute [local go_sem] Oper.semAt_some
namespace Gm
section
variable {K V : Type} [DecidableEq K] {M : ML K V}
theorem Chg_grown {w w' : World} {r : Nat} (h : Chg (fun k => k = r) w w') : w.grownBy w' (some r) := by
  obtain ⟨a, b, c, d, e⟩ := h
  exact ⟨a, b, c, d, fun k hk hn => e k hk (fun q => hn (by rw [q]))⟩
theorem HMap.range3 {w : World} {mb : Nat} {L : List (K × V)} (h : HMap M w mb L) :
    ∃ o : Obj, o.isWalk = true ∧ (Instr.range M.tm (.map (some mb))).run Try.prog w = .ok (.pointer (some ⟨w.heap.size, 0, none⟩)) (w.alloc o) ∧ Rng M (w.alloc o) mb w.heap.size L [] L := by
  have hlt := h.lt
  obtain ⟨es, c, hb, hs, he⟩ := h
  refine ⟨_, rfl, run_range_map w M.tm M.tk M.tv mb es c M.under hb, es, c, c, #[], c, ((MapKept.heap_alloc w _).2 mb hlt).trans hb, hs, he, (MapKept.heap_alloc w _).1, hs.1, Nat.le_refl _, Nat.le_refl _, ?_, by simp⟩
  rw [← he]
  have e0 : (leftOf es #[]).toList = es.toList := by
    simp only [leftOf, Array.toList_filter]
    exact List.filter_eq_self.2 (fun x _ => by simp)
  rw [e0]
theorem Rng.walks {w w' : World} {mb r : Nat} {L D T : List (K × V)} (h : Rng M w mb r L D T) (hk : KeepsWalks w w') : Rng M w' mb r L D T := by
  obtain ⟨es, c, s, sn, c0, a, b, d, e, f⟩ := h
  exact ⟨es, c, s, sn, c0, hk.same mb _ a rfl, b, d, hk.same r _ e rfl, f⟩
theorem Rng.isW {w : World} {mb r : Nat} {L D T : List (K × V)} (h : Rng M w mb r L D T) : ∃ o : Obj, w.heap[r]? = some o ∧ o.isWalk = true := by
  obtain ⟨es, c, s, sn, c0, a, b, d, e, f⟩ := h
  exact ⟨_, e, rfl⟩
theorem Rng.len {w : World} {mb r : Nat} {L D T : List (K × V)} (h : Rng M w mb r L D T) : D.length + T.length = L.length := by
  have := h.perm.length_eq
  simpa using this
end
end Gm
theorem Chg.grown {w w' : World} {r : Nat} (h : Chg (fun k => k = r) w w') : w.grownBy w' (some r) := Gm.Chg_grown h
set_option maxRecDepth 100000 in
set_option maxHeartbeats 1600000 in
theorem keysS1 (F : Fence) (n : Nat) (hf : F.fn 81) (hro : F.round = none) (hn : 1 ≤ n) (l Bm mb : Nat) (L : List ((List UInt8) × Ct)) (J Jx : List (List UInt8) → World → Prop) (W : World) (hJ : AbidesFrom W.heap.size J)
    (hY : ∀ pre x W1, J pre W1 → pre.length < L.length → YieldAt F (n - 1) Try.prog l #[Str x] W1 fun e W' => (e = .returned (.bool true) ∧ J (pre ++ [x]) W' ∧ KeepsWalks W1 W') ∨ (e = .returned (.bool false) ∧ Jx (pre ++ [x]) W'))
    (hm : W.cell? ⟨Bm, 0, none⟩ = some (.map (some mb))) (hM : Gm.HMap MC W mb L) (h0 : J [] W) :
    CallsIn F n Try.prog 81 #[.func (.yield l) #[] #[], .pointer (some ⟨Bm, 0, none⟩)] W fun e W' => (∃ v, e = .returned v) ∧ ((∃ ys, ys.Perm (L.map (·.1)) ∧ J ys W') ∨ (∃ pre, True ∧ Jx pre W')) := by
  obtain ⟨o, how, hrg, hR⟩ := hM.range3
  replace hrg : (Instr.range 57 (.map (some mb))).run Try.prog W = .ok (.pointer (some ⟨W.heap.size, 0, none⟩)) (W.alloc o) := hrg
  have HR : Hid _ := hR
  have HJ0 : Hid (J [] (W.alloc o)) := hJ [] W _ none h0 (World.grownBy_alloc W o none) (fun r e => by cases e)
  clear hR hM h0
  refine callsIn_of_wp Try.func81 rfl hf ?_ hro
  simp only [Try.ntmps81, List.size_toArray, List.length_cons, List.length_nil, Nat.reduceAdd, Nat.reduceSub, Array.replicate_succ, Array.replicate_zero, List.push_toArray, List.append_toArray, List.nil_append, List.cons_append]
  gi_wp2
  gi_loopw [3] (fun _ wr => ∃ D T, Gm.Rng MC wr mb W.heap.size L D T ∧ J (D.map (·.1)) wr) (fun _ wr => rngLeft wr mb W.heap.size)
  case atStart => exact ⟨[], L, HR.out, HJ0.out⟩
  case round =>
    obtain ⟨D, T, hRr, hJr⟩ := hrel
    clear HR HJ0
    rcases Rng.next2 hRr with ⟨hT, hnx⟩ | ⟨x, T', w2, hnx, hen, hr2, hlt2, hst2, hsz2⟩
    · have hp : (D.map (·.1)).Perm (L.map (·.1)) := by
        have := hRr.perm
        rw [hT, List.append_nil] at this
        exact this.map _
      have HP : Hid _ := hp
      have HJr : Hid _ := hJr
      clear hp hJr hRr hT
      gi_wp2
      go_end0
      exact ⟨⟨_, rfl⟩, .inl ⟨_, HP.out, HJr.out⟩⟩
    · replace hnx : ∀ ty, (Instr.next (.pointer (some ⟨W.heap.size, 0, none⟩)) false ty).run Try.prog wr = .ok (.tuple #[.bool true, .string ⟨x.1.toArray⟩, ctV x.2]) w2 := hnx
      replace hen : (Instr.entry (.pointer (some ⟨W.heap.size, 0, none⟩))).run Try.prog w2 = .ok (.tuple #[.string ⟨x.1.toArray⟩, ctV x.2]) w2 := hen
      have hJ2 : J (D.map (·.1)) w2 := hJ _ wr w2 (some W.heap.size) hJr hst2.grown (fun r e => by cases e; exact ⟨Nat.le_refl _, hRr.isW⟩)
      have hJ3 : J (D.map (·.1)) w2 := hJ2
      have hlen : (D.map (·.1)).length < L.length := by
        have h1 := hr2.len
        simp at h1 ⊢
        omega
      obtain ⟨fn, tmps, assign, body, hy, hYR⟩ := hY _ x.1 _ hJ3 hlen
      unfold Str at hy
      have hr3 : Gm.Rng MC w2 mb W.heap.size L (D ++ [x]) T' := hr2
      have HR3 : Hid (Gm.Rng MC w2 mb W.heap.size L (D ++ [x]) T') := hr3
      have HLF : Hid (T'.length < rngLeft wr mb W.heap.size) := show T'.length < rngLeft wr mb W.heap.size from by rw [Rng.left hRr]; exact hlt2
      have HMP : Hid ((D ++ [x]).map (·.1) = D.map (·.1) ++ [x.1]) := show (D ++ [x]).map (·.1) = D.map (·.1) ++ [x.1] from by simp
      have HYR : Hid _ := hYR
      clear hst2 hsz2 hr2 hr3 hlt2 hJ2 hJ3 hlen hRr hJr hY hJ hYR
      
      gi_wp2
      refine RoundIn.mono HYR.out ?_
      rintro e W3 (⟨rfl, hJ4, hk4⟩ | ⟨rfl, hJx4⟩)
      · have HR4 : Hid (Gm.Rng MC W3 mb W.heap.size L (D ++ [x]) T') := Gm.Rng.walks HR3.out hk4
        have HJ4 : Hid (J ((D ++ [x]).map (·.1)) W3) := show J ((D ++ [x]).map (·.1)) W3 from by rw [HMP.out]; exact hJ4
        clear hJ4 hk4 HR3 hnx hen hy
        gi_wp2
        go_roundw
        case rel => exact ⟨D ++ [x], T', HR4.out, HJ4.out⟩
        case measure => rw [Rng.left HR4.out]; exact HLF.out
      · have HX : Hid _ := hJx4
        clear hJx4 HR3 hnx hen hy
        gi_wp2
        refine bodyPost_ret (results_none rfl _ _ _) rfl ?_
        exact ⟨⟨_, rfl⟩, .inr ⟨_, trivial, HX.out⟩⟩
theorem keysS_stops (F : Fence) (n : Nat) (hf : F.fn 81) (hro : F.round = none) (hn : 1 ≤ n) (Bm mb : Nat) (L : List ((List UInt8) × Ct)) (w : World) (hc : w.cell? ⟨Bm, 0, none⟩ = some (.map (some mb))) (hM : Gm.HMap MC w mb L) :
    SeqStopsK F n Try.prog 81 #[.pointer (some ⟨Bm, 0, none⟩)] (fun x : List UInt8 => #[Str x]) KeepsWalks (fun ys => ys.Perm (L.map (·.1))) (fun _ => True) L.length w := fun l J Jx W hW hJ _ hY h0 =>
  keysS1 F n hf hro hn l Bm mb L J Jx W hJ hY ((hW.cell (p := ⟨Bm, 0, none⟩) (World.block_lt_of_cell? w _ hc)).trans hc) (hM.same (hW.block mb hM.lt)) h0
set_option maxHeartbeats 1000000 in
theorem keysS_in (F : Fence) (n : Nat) (hf : F.fn 63) (hro : F.round = none) (mb : Nat) (w : World) :
    CallsIn F n Try.prog 63 #[.map (some mb)] w fun e w' => e = .returned (.func (.func 81) #[] #[.pointer (some ⟨w.heap.size, 0, none⟩)]) ∧ w' = w.alloc (.cells #[.map (some mb)] 57) := by
  refine callsIn_of_wp Try.func63 rfl hf ?_ hro
  simp only [Try.ntmps63, List.size_toArray, List.length_cons, List.length_nil, Nat.reduceAdd, Nat.reduceSub, Array.replicate_succ, Array.replicate_zero, List.push_toArray, List.append_toArray, List.nil_append, List.cons_append]
  gi_wp2
  go_ret
  exact ⟨rfl, rfl⟩
end Go.Proofs.Ytaiknlnjahjeiaa
