import Derived.Test.YtehjdkdoalmaeaaMix2
import Derived.Test.YtehjdkdoalmaeaaAlike
import Derived.Test.YtehjdkdoalmaeaaOrder
namespace Go.Proofs.Ytehjdkdoalmaeaa
open Go.RowKit Go.PlainAid
set_option linter.unusedVariables false
set_option linter.unusedSimpArgs false
def CFind (w : World) (D : Array Value) (wr : World) : Prop := Below w.heap.size w wr ∧ Blk wr w.heap.size D 31
theorem row_at {w : World} {base : Nat} {v : Value} {ss : List LetV} (ho : w.ownsRow base 31 3 v ss.length (flat ss)) {i : Nat} {x : LetV} (hi : ss[i]? = some x) : ∃ g cap, v = .slice (some ⟨g, 0, none⟩) ss.length cap ∧ ss.length ≤ cap ∧ base ≤ g ∧ g < w.heap.size ∧ w.cell? ⟨g, i * 3, none⟩ = some (.int .i64 x.f) ∧ w.cell? ⟨g, i * 3 + 1, none⟩ = some (.int .i64 x.t) ∧ w.cell? ⟨g, i * 3 + 2, none⟩ = some x.d := by
  have hlt := (List.getElem?_eq_some_iff.1 hi).1
  rcases ho.2 with ⟨_, h0⟩ | ⟨g, cap, cur, rfl, hg, hh, hc, _⟩
  · omega
  · have hcell := ho.cells (g := g) rfl
    obtain ⟨h0, h1, h2⟩ := flat_get ss i x hi
    refine ⟨g, cap, rfl, hc, hg, (Array.getElem?_eq_some_iff.1 hh).1, ?_, ?_, ?_⟩
    · have := hcell _ _ h0; rwa [addr_add, Nat.zero_add] at this
    · have := hcell _ _ h1; rwa [addr_add, Nat.zero_add] at this
    · have := hcell _ _ h2; rwa [addr_add, Nat.zero_add] at this
/-- Bytes of a letter that can be read, in a row of bytes. -/
structure Dt (w : World) (x : LetV) : Prop where
  ex : ∃ ao cap, x.d = .slice ao x.bs.length cap ∧ From w ao x.bs ∧ ∀ b o, ao = some ⟨b, o, none⟩ → ∃ C fr, w.heap[b]? = some (.cells C 5 fr)
theorem Dt.keep {w w' : World} {x : LetV} (h : Dt w x) (hk : ∀ (b : Nat) C fr, w.heap[b]? = some (Obj.cells C 5 fr) → w'.heap[b]? = w.heap[b]?) : Dt w' x := by
  obtain ⟨ao, cap, e, hf, ht⟩ := h.ex
  refine ⟨ao, cap, e, hf.keep fun b o eb => ?_, fun b o eb => ?_⟩
  · obtain ⟨C, fr, hc⟩ := ht b o eb
    exact hk b C fr hc
  · obtain ⟨C, fr, hc⟩ := ht b o eb
    exact ⟨C, fr, (hk b C fr hc).trans hc⟩
theorem Dt.below {w w' : World} {x : LetV} (h : Dt w x) (hb : Below w.heap.size w w') : Dt w' x := h.keep fun b C fr hc => hb.block b (Array.getElem?_eq_some_iff.1 hc).1
theorem Dt.own {w : World} {x : LetV} {base : Nat} (h : w.ownsRow base 5 1 x.d x.bs.length (x.bs.map B)) : Dt w x := by
  obtain ⟨ao, cap, e, _, _, hf, _⟩ := own_from h
  refine ⟨ao, cap, e, hf, fun b o eb => ?_⟩
  obtain ⟨cur, hc⟩ := ownsRow_type h (g := b) (by rw [e, eb]; rfl)
  exact ⟨cur, _, hc⟩
theorem Dt.one {w : World} {x : LetV} (h : Dt w x) : x.d.oneCell' = true := by
  obtain ⟨ao, cap, e, _⟩ := h.ex
  rw [e]
  rfl
def Found (ss : List LetV) (key : Int × Int × List UInt8) (r : Int) : Prop := (∃ k x, r = ((k : Nat) : Int) ∧ ss[k]? = some x ∧ x.k = key) ∨ (r = -1 ∧ ∀ x ∈ ss, x.k ≠ key)
theorem alikeB_iff (x : LetV) (f t : Int) (bs : List UInt8) : alikeB x.f x.t x.bs f t bs = true ↔ x.k = (f, t, bs) := by
  simp [alikeB, LetV.k, and_assoc]
set_option maxRecDepth 100000 in
set_option maxHeartbeats 3200000 in
/-- find. -/
theorem find_any (L : Nat) (v7 : Value) (ss : List LetV) (w : World) (hown : w.ownsRow L 31 3 v7 ss.length (flat ss)) (hdat : ∀ x ∈ ss, Dt w x) (hlen : ss.length ≤ 3000) (f t : Int) (ao : Option Addr) (n c : Nat) (bs : List UInt8) (hl : bs.length = n) (hf : From w ao bs) :
    Calls Try.prog 20 #[v7, .agg (letC f t (.slice ao n c))] w fun e w' => Below w.heap.size w w' ∧ ∃ r : Int, e = .returned (.int .i64 r) ∧ Found ss (f, t, bs) r := by
  show Calls Try.prog 20 #[v7, .agg #[.int .i64 f, .int .i64 t, .slice ao n c]] w _
  obtain ⟨vo, cap, rfl, hcap⟩ := own_slice hown
  have hb0 : Below w.heap.size w (w.alloc (.cells #[.int .i64 f, .int .i64 t, .slice ao n c] 31)) := by go_grown
  have hB0 : Blk (w.alloc (.cells #[.int .i64 f, .int .i64 t, .slice ao n c] 31)) w.heap.size (letC f t (.slice ao n c)) 31 := heap_alloc_new w _
  go_enter Try.func20, Try.ntmps20
  go_wp2
  go_loopw [5] (fun k wr => ∃ k' : Nat, k' ≤ ss.length ∧ k = .int .i64 k' ∧ CFind w (letC f t (.slice ao n c)) wr ∧ ∀ i x, i < k' → ss[i]? = some x → x.k ≠ (f, t, bs)) (fun k _ => ss.length - (intOf k).toNat)
  case atStart => exact ⟨0, Nat.zero_le _, rfl, ⟨hb0, hB0⟩, fun i x h => by omega⟩
  case round =>
    obtain ⟨k, hk, rfl, hCr, hno⟩ := hrel
    clear hb0 hB0
    by_cases hlt : k < ss.length
    · obtain ⟨x, hx⟩ : ∃ x, ss[k]? = some x := ⟨ss[k]'(by omega), List.getElem?_eq_getElem _⟩
      obtain ⟨g, cap', hv, _, _, hglt, m0, m1, m2⟩ := row_at hown hx
      cases hv
      have hd := hdat x (List.mem_of_getElem? hx)
      have HO : Hid _ := hown
      have HD : Hid _ := hdat
      have HNO : Hid _ := hno
      clear hown hdat hno
      go_wp2
      rename_i K hK
      refine wp_region_mix (CFind w (letC f t (.slice ao n c))) (fun i => i == 5 || i == 6) 6 (by kernel_rfl) rfl (by kernel_rfl) (by kernel_rfl) (by kernel_rfl) ?_
      have hC : CFind w (letC f t (.slice ao n c)) ({ wr with drawn := wr.drawn + 1 } : World) := ⟨⟨hCr.1.os, hCr.1.tape, hCr.1.output, hCr.1.size, hCr.1.block⟩, hCr.2⟩
      clear hCr
      generalize ({ wr with drawn := wr.drawn + 1 } : World) = Y at *
      have hdY : Dt Y x := hd.below hC.1
      have hal : Calls Try.prog 14 #[.agg x.c, .agg (letC f t (.slice ao n c))] Y fun e w' => e = .returned (.bool (alikeB x.f x.t x.bs f t bs)) ∧ Below Y.heap.size Y w' := by
        obtain ⟨xao, xcap, hxd, hxf, _⟩ := hdY.ex
        have h1 := alike_any x.f x.t f t xao ao x.bs.length n xcap c x.bs bs Y rfl hl hxf (hf.up hC.1 rfl)
        rw [← hxd] at h1
        exact h1
      refine withFrP (N := 19) rfl ?_
      intro f0 F0 hff
      have hs0 : f0 0 = Value.slice (some ⟨g, 0, none⟩) ss.length cap := hff 0
      have hs3 : f0 3 = Value.pointer (some ⟨w.heap.size, 0, none⟩) := hff 3
      have hs5 : f0 5 = Value.int .i64 (k : Nat) := hff 5
      clear hff
      refine lyp F0 rfl hC rfl (by omega) (wanted_none rfl) (v := Value.slice (some ⟨g, 0, none⟩) ss.length cap) (fun wr hwr => by simp only [execOp, (F0.eval 0 (by omega)).trans (show _ = Value.slice (some ⟨g, 0, none⟩) ss.length cap from by simp [upd, hs0, hs3, hs5])]; first | rfl | simp [go_sem]) fun F1 => ?_
      refine lyp F1 rfl hC rfl (by omega) (wanted_none rfl) (v := Value.int .i64 (k : Nat)) (fun wr hwr => by simp only [execOp, (F1.eval 5 (by omega)).trans (show _ = Value.int .i64 (k : Nat) from by simp [upd, hs0, hs3, hs5])]; first | rfl | simp [go_sem]) fun F2 => ?_
      refine lyp F2 rfl hC rfl (by omega) (wanted_none rfl) (v := Value.pointer (some ⟨g, k * 3, none⟩)) (fun wr hwr => by simp only [execOp, (F2.eval 12 (by omega)).trans (show _ = Value.slice (some ⟨g, 0, none⟩) ss.length cap from by simp [upd, hs0, hs3, hs5]), (F2.eval 13 (by omega)).trans (show _ = Value.int .i64 (k : Nat) from by simp [upd, hs0, hs3, hs5])]; simp [go_sem, hlt]) fun F3 => ?_
      refine lyp F3 rfl hC rfl (by omega) (wanted_none rfl) (v := Value.agg x.c) (fun wr hwr => by have q0 := (hwr.1.cell (show g < w.heap.size from hglt)).trans m0; have q1 := (hwr.1.cell (show g < w.heap.size from hglt)).trans m1; have q2 := (hwr.1.cell (show g < w.heap.size from hglt)).trans m2; simp only [execOp, (F3.eval 14 (by omega)).trans (show _ = Value.pointer (some ⟨g, k * 3, none⟩) from by simp [upd, hs0, hs3, hs5])]; simp [go_sem, q0, q1, q2, LetV.c, letC]) fun F4 => ?_
      refine lyp F4 rfl hC rfl (by omega) (wanted_none rfl) (v := Value.agg (letC f t (.slice ao n c))) (fun wr hwr => by simp only [execOp, (F4.eval 3 (by omega)).trans (show _ = Value.pointer (some ⟨w.heap.size, 0, none⟩) from by simp [upd, hs0, hs3, hs5]), Instr.loadAt, Instr.sureAddr, Sem.run_bind, Sem.run_pure, Result.andThen_ok, run_loadVar_row (P := Try.prog) wr w.heap.size 31 31 (letC f t (.slice ao n c)) (0, 0) _ hwr.2 Try.underlying31 rfl (by kernel_rfl)]) fun F5 => ?_
      refine lcp F5 rfl hC rfl (by omega) (wanted_none rfl) (g := 14) (args := #[.agg x.c, .agg (letC f t (.slice ao n c))]) (by simp only [execOp, resolve, invoke, List.map_toArray, List.map_cons, List.map_nil, (F5.eval 15 (by omega)).trans (show _ = Value.agg x.c from by simp [upd, hs0, hs3, hs5]), (F5.eval 16 (by omega)).trans (show _ = Value.agg (letC f t (.slice ao n c)) from by simp [upd, hs0, hs3, hs5])]; simp [go_sem, Act.eval]) hal ?_
      rintro e8 Y2 ⟨rfl, hb8⟩
      refine ⟨_, rfl, fun F6 => ?_⟩
      have hC2 : CFind w (letC f t (.slice ao n c)) Y2 := ⟨hC.1.trans (hb8.mono hC.1.size), (hb8.block _ hC.2.lt).trans hC.2⟩
      refine ⟨fun _ => hC2, ?_⟩
      clear F0 F1 F2 F3 F4 F5 F6 hs0 hs3 hs5 hal hC hdY hd m0 m1 m2 hb8
      show K _ _
      apply hK
      simp only [Act.put, List.setIfInBounds_toArray, List.set_cons_succ, List.set_cons_zero]
      have hiff := alikeB_iff x f t bs
      cases hq : alikeB x.f x.t x.bs f t bs
      · have hnk : x.k ≠ (f, t, bs) := fun e => by rw [hiff.2 e] at hq; cases hq
        clear hq hiff
        go_wp2
        go_roundw
        case rel => exact ⟨k + 1, by omega, by go_num, hC2, fun i y hi hy => by
          by_cases hik : i < k
          · exact HNO.out i y hik hy
          · obtain rfl : i = k := by omega
            rw [hx] at hy
            cases hy
            exact hnk⟩
        case measure => simp [intOf]; omega
      · have hyk : x.k = (f, t, bs) := hiff.1 hq
        have HC2 : Hid _ := hC2
        clear hq hiff hC2
        go_wp2
        go_ret
        exact ⟨HC2.out.1, _, rfl, Or.inl ⟨k, x, rfl, hx, hyk⟩⟩
    · have HC2 : Hid _ := hCr
      have HNO : Hid _ := hno
      clear hno hCr
      go_wp2
      go_ret
      refine ⟨HC2.out.1, _, rfl, Or.inr ⟨rfl, fun x hx => ?_⟩⟩
      obtain ⟨i, hi⟩ := List.getElem?_of_mem hx
      exact HNO.out i x (by have := (List.getElem?_eq_some_iff.1 hi).1; omega) hi
end Go.Proofs.Ytehjdkdoalmaeaa
