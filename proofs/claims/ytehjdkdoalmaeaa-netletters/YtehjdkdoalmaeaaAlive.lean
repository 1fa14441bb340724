import Derived.Test.YtehjdkdoalmaeaaHolds0
import Derived.Lib.SlBytesConst
namespace Go.Proofs.Ytehjdkdoalmaeaa
open Go.RowKit Go.PlainAid
set_option linter.unusedVariables false
set_option linter.unusedSimpArgs false
theorem one_conv (w : World) (g : Nat) (hg : g = w.heap.size) (x : Int) : (convert 29 29 (.slice (some ⟨g, 0, none⟩) 1 1)).run Try.prog (w.alloc (.cells #[.int .u8 x] 5)) = .ok (.slice (some ⟨g, 0, none⟩) 1 1) (w.alloc (.cells #[.int .u8 x] 5 (1, 2))) := by
  subst hg
  exact Lib.run_convert_bytes_const w 29 5 #[.int .u8 x] 1 1 Try.underlying29 Try.underlying5
/-- The script of 'alive', where its two letters lie at h + 3 and h + 4. -/
def aliveOps (h : Nat) : List OpA := [⟨1, 0, 0, 0, ⟨1, 2, some ⟨h + 3, 0, none⟩, 1, [97]⟩⟩, ⟨1, 0, 0, 0, ⟨0, 4, some ⟨h + 4, 0, none⟩, 1, [98]⟩⟩, ⟨4, 0, 0, 0, ⟨0, 0, none, 0, []⟩⟩, ⟨5, 0, 2, 1, ⟨0, 0, none, 0, []⟩⟩, ⟨6, 0, 0, 0, ⟨0, 0, none, 0, []⟩⟩, ⟨2, 0, 1, 0, ⟨0, 0, none, 0, []⟩⟩, ⟨7, 0, 1, 0, ⟨0, 0, none, 0, []⟩⟩]
def aliveC (h : Nat) : Array Value := #[.int .i64 1, .int .i64 0, .int .i64 0, .int .i64 0, .int .i64 1, .int .i64 2, .slice (some ⟨h + 3, 0, none⟩) 1 1,
  .int .i64 1, .int .i64 0, .int .i64 0, .int .i64 0, .int .i64 0, .int .i64 4, .slice (some ⟨h + 4, 0, none⟩) 1 1,
  .int .i64 4, .int .i64 0, .int .i64 0, .int .i64 0, .int .i64 0, .int .i64 0, .slice none 0 0,
  .int .i64 5, .int .i64 0, .int .i64 2, .int .i64 1, .int .i64 0, .int .i64 0, .slice none 0 0,
  .int .i64 6, .int .i64 0, .int .i64 0, .int .i64 0, .int .i64 0, .int .i64 0, .slice none 0 0,
  .int .i64 2, .int .i64 0, .int .i64 1, .int .i64 0, .int .i64 0, .int .i64 0, .slice none 0 0,
  .int .i64 7, .int .i64 0, .int .i64 1, .int .i64 0, .int .i64 0, .int .i64 0, .slice none 0 0]
structure AOp (W : World) (h : Nat) (k : Nat) (o : OpA) : Prop where
  c0 : W.cell? ⟨h + 3 + 1 + 1, k * 7, none⟩ = some (.int .i64 o.kind)
  c1 : W.cell? ⟨h + 3 + 1 + 1, k * 7 + 1, none⟩ = some (.int .i64 o.who)
  c2 : W.cell? ⟨h + 3 + 1 + 1, k * 7 + 2, none⟩ = some (.int .i64 o.i)
  c3 : W.cell? ⟨h + 3 + 1 + 1, k * 7 + 3, none⟩ = some (.int .i64 o.j)
  c4 : W.cell? ⟨h + 3 + 1 + 1, k * 7 + 4, none⟩ = some (.int .i64 o.l.f)
  c5 : W.cell? ⟨h + 3 + 1 + 1, k * 7 + 5, none⟩ = some (.int .i64 o.l.t)
  c6 : W.cell? ⟨h + 3 + 1 + 1, k * 7 + 6, none⟩ = some (.slice o.l.ao o.l.bs.length o.l.cap)
theorem alive_op (h : Nat) (W : World) (hC : W.heap[h + 3 + 1 + 1]? = some (.cells (aliveC h) 43 (0, 0))) (k : Nat) (o : OpA) (ho : (aliveOps h)[k]? = some o) : AOp W h k o := by
  have hk : k < 7 := (List.getElem?_eq_some_iff.1 ho).1
  have hc : ∀ j, W.cell? ⟨h + 3 + 1 + 1, j, none⟩ = (aliveC h)[j]? := fun j => cell_of_row W _ j _ 43 (0, 0) hC
  have h7 : k = 0 ∨ k = 1 ∨ k = 2 ∨ k = 3 ∨ k = 4 ∨ k = 5 ∨ k = 6 := by omega
  rcases h7 with rfl | rfl | rfl | rfl | rfl | rfl | rfl <;>
    (simp only [aliveOps, List.getElem?_cons_zero, List.getElem?_cons_succ, Option.some.injEq] at ho
     subst ho
     exact ⟨(hc _).trans rfl, (hc _).trans rfl, (hc _).trans rfl, (hc _).trans rfl, (hc _).trans rfl, (hc _).trans rfl, (hc _).trans rfl⟩)
theorem alive_let (h : Nat) (W : World) (ha : W.heap[h + 3]? = some (.cells #[.int .u8 97] 5 (1, 2))) (hb : W.heap[h + 4]? = some (.cells #[.int .u8 98] 5 (1, 2))) (k : Nat) (o : OpA) (ho : (aliveOps h)[k]? = some o) :
    o.l.bs.length ≤ 1048576 ∧ (o.l.ao = none → o.l.bs.length = 0 ∧ o.l.cap = 0) ∧ From W o.l.ao o.l.bs ∧ (0 < o.l.bs.length → ∀ b q, o.l.ao = some ⟨b, q, none⟩ → b = h + 3 ∨ b = h + 4) := by
  have hk : k < 7 := (List.getElem?_eq_some_iff.1 ho).1
  have h7 : k = 0 ∨ k = 1 ∨ k = 2 ∨ k = 3 ∨ k = 4 ∨ k = 5 ∨ k = 6 := by omega
  have one : ∀ (g : Nat) (x : Int) (u : UInt8), W.heap[g]? = some (.cells #[.int .u8 x] 5 (1, 2)) → (u.toNat : Int) = x → From W (some ⟨g, 0, none⟩) [u] := fun g x u hg hu _ => ⟨g, 0, rfl, fun j y hy => by
    have hj : j = 0 := by have := (List.getElem?_eq_some_iff.1 hy).1; simp at this; exact this
    subst hj
    simp only [List.getElem?_cons_zero, Option.some.injEq] at hy
    subst hy
    rw [cell_of_row W g _ _ 5 (1, 2) hg, B, hu]
    rfl⟩
  rcases h7 with rfl | rfl | rfl | rfl | rfl | rfl | rfl <;>
    simp only [aliveOps, List.getElem?_cons_zero, List.getElem?_cons_succ, Option.some.injEq] at ho <;> subst ho
  · exact ⟨by show 1 ≤ 1048576; omega, (fun h => by cases h), one _ 97 97 ha rfl, fun _ b q e => by cases e; exact Or.inl rfl⟩
  · exact ⟨by show 1 ≤ 1048576; omega, (fun h => by cases h), one _ 98 98 hb rfl, fun _ b q e => by cases e; exact Or.inr rfl⟩
  all_goals exact ⟨by decide, fun _ => ⟨rfl, rfl⟩, (fun h => by simp at h), fun h => by simp at h⟩
set_option maxRecDepth 100000 in
set_option maxHeartbeats 3200000 in
theorem alive_any (w : World) : Calls Try.prog 21 #[] w fun e w' => e = .returned (.bool true) ∧ Below w.heap.size w w' := by
  have hm := made_yes 3 w (by omega) (by omega)
  rw [show ((3 : Nat) : Int) = 3 from rfl] at hm
  have hsz := newW_size 3 w
  have hbw := newW_below 3 w
  have hP0 : PInv w.heap.size (w.heap.size + 2) w.heap.size (w.heap.size + 1) 3 PS.new (newW 3 w) := new_inv w.heap.size 3 w
  have HB : Hid _ := hbw
  have HP : Hid _ := hP0
  clear hbw hP0
  go_enter Try.func21, Try.ntmps21
  go_wp2_with fail
  refine hm.mono ?_
  rintro e22 w1 ⟨rfl, hw1⟩
  have hbw : Below w.heap.size w w1 := by rw [hw1]; exact HB.out
  have hP0 : PInv w.heap.size (w.heap.size + 2) w.heap.size (w.heap.size + 1) 3 PS.new w1 := by rw [hw1]; exact HP.out
  have hs1 : w1.heap.size = w.heap.size + 3 := by rw [hw1]; exact hsz
  clear HB HP hm hsz hw1
  have v1 := one_conv w1 (w.heap.size + 3) hs1.symm 97
  have v2 := one_conv (w1.alloc (.cells #[.int .u8 97] 5 (1, 2))) (w.heap.size + 4) (by simp [hs1]) 98
  have HB : Hid _ := hbw
  have HP : Hid _ := hP0
  clear hbw hP0
  go_wp2_with fail
  have hbw := HB.out
  have hP0 := HP.out
  clear HB HP v1 v2
  have hW0 : ((w1.alloc (.cells #[.int .u8 97] 5 (1, 2))).alloc (.cells #[.int .u8 98] 5 (1, 2))).alloc (.cells (aliveC w.heap.size) 43) = ((w1.alloc (.cells #[.int .u8 97] 5 (1, 2))).alloc (.cells #[.int .u8 98] 5 (1, 2))).alloc (.cells #[.int .i64 1, .int .i64 0, .int .i64 0, .int .i64 0, .int .i64 1, .int .i64 2, .slice (some ⟨w.heap.size + 3, 0, none⟩) 1 1,
  .int .i64 1, .int .i64 0, .int .i64 0, .int .i64 0, .int .i64 0, .int .i64 4, .slice (some ⟨w.heap.size + 4, 0, none⟩) 1 1,
  .int .i64 4, .int .i64 0, .int .i64 0, .int .i64 0, .int .i64 0, .int .i64 0, .slice none 0 0,
  .int .i64 5, .int .i64 0, .int .i64 2, .int .i64 1, .int .i64 0, .int .i64 0, .slice none 0 0,
  .int .i64 6, .int .i64 0, .int .i64 0, .int .i64 0, .int .i64 0, .int .i64 0, .slice none 0 0,
  .int .i64 2, .int .i64 0, .int .i64 1, .int .i64 0, .int .i64 0, .int .i64 0, .slice none 0 0,
  .int .i64 7, .int .i64 0, .int .i64 1, .int .i64 0, .int .i64 0, .int .i64 0, .slice none 0 0] 43) := rfl
  rw [← hW0]
  clear hW0
  have hup : Below w1.heap.size w1 (((w1.alloc (.cells #[.int .u8 97] 5 (1, 2))).alloc (.cells #[.int .u8 98] 5 (1, 2))).alloc (.cells (aliveC w.heap.size) 43)) := (((Below.refl _ _).alloc (Nat.le_refl _) _).alloc (by simp) _).alloc (by simp; omega) _
  have hA : (((w1.alloc (.cells #[.int .u8 97] 5 (1, 2))).alloc (.cells #[.int .u8 98] 5 (1, 2))).alloc (.cells (aliveC w.heap.size) 43)).heap[w.heap.size + 3]? = some (.cells #[.int .u8 97] 5 (1, 2)) := by
    rw [← hs1]
    exact (Below.heap_alloc _ _ _ (by simp; omega)).trans ((Below.heap_alloc _ _ _ (by simp)).trans (heap_alloc_new w1 _))
  have hB : (((w1.alloc (.cells #[.int .u8 97] 5 (1, 2))).alloc (.cells #[.int .u8 98] 5 (1, 2))).alloc (.cells (aliveC w.heap.size) 43)).heap[w.heap.size + 4]? = some (.cells #[.int .u8 98] 5 (1, 2)) := by
    have e : w.heap.size + 4 = (w1.alloc (.cells #[.int .u8 97] 5 (1, 2))).heap.size := by simp [hs1]
    rw [e]
    exact (Below.heap_alloc _ _ _ (by simp)).trans (heap_alloc_new _ _)
  have hC : (((w1.alloc (.cells #[.int .u8 97] 5 (1, 2))).alloc (.cells #[.int .u8 98] 5 (1, 2))).alloc (.cells (aliveC w.heap.size) 43)).heap[w.heap.size + 3 + 1 + 1]? = some (.cells (aliveC w.heap.size) 43 (0, 0)) := by
    have e : w.heap.size + 3 + 1 + 1 = ((w1.alloc (.cells #[.int .u8 97] 5 (1, 2))).alloc (.cells #[.int .u8 98] 5 (1, 2))).heap.size := by simp [hs1]
    rw [e]
    exact heap_alloc_new _ _
  have hz : (((w1.alloc (.cells #[.int .u8 97] 5 (1, 2))).alloc (.cells #[.int .u8 98] 5 (1, 2))).alloc (.cells (aliveC w.heap.size) 43)).heap.size = w.heap.size + 6 := by simp [hs1]
  generalize (((w1.alloc (.cells #[.int .u8 97] 5 (1, 2))).alloc (.cells #[.int .u8 98] 5 (1, 2))).alloc (.cells (aliveC w.heap.size) 43)) = W0 at *
  have hPW := hP0.below hup
  have hbW : Below w.heap.size w W0 := hbw.trans (hup.mono (by omega))
  have hR0 : PRel w.heap.size (w.heap.size + 2) w.heap.size (w.heap.size + 1) 3 PS.new W0 0 W0 := PRel.start hPW (new_ag 3) new_full new_cnt rfl
  have hnh : ∀ b, w.heap.size + 2 < b → ¬ PS.new.has (w.heap.size + 2) w.heap.size (w.heap.size + 1) b := fun b hb q => by have := new_has _ _ _ _ q; omega
  clear hP0 hup hbw hPW hs1
  have HBW : Hid _ := hbW
  have HA : Hid _ := hA
  have HB : Hid _ := hB
  have HC : Hid _ := hC
  have HZ : Hid _ := hz
  have HN : Hid _ := hnh
  clear hbW hA hB hC hz hnh
  go_loopw [4, 5] (fun (i : Value) (_ : Value) (wr : World) => ∃ k : Nat, k ≤ 7 ∧ i = .int .i64 k ∧ PRel w.heap.size (w.heap.size + 2) w.heap.size (w.heap.size + 1) 3 PS.new W0 k wr) (fun i _ _ => 7 - (intOf i).toNat)
  case atStart => exact ⟨0, by omega, rfl, hR0⟩
  case round =>
    obtain ⟨k, hk, rfl, hR⟩ := hrel
    rename World => wr
    clear hR0
    by_cases hlt : k < 7
    · obtain ⟨o, ho⟩ : ∃ o, (aliveOps w.heap.size)[k]? = some o := ⟨(aliveOps w.heap.size)[k]'(by show k < 7; omega), List.getElem?_eq_getElem _⟩
      have hCr : wr.heap[w.heap.size + 3 + 1 + 1]? = some (.cells (aliveC w.heap.size) 43 (0, 0)) := by
        obtain ⟨s', _, _, _, _, _, hS⟩ := hR
        exact (hS.block _ (by rw [HZ.out]; omega) (HN.out _ (by omega))).trans HC.out
      obtain ⟨d0, d1, d2, d3, d4, d5, d6⟩ := alive_op _ wr hCr k o ho
      obtain ⟨l1, l2, l3, l4⟩ := alive_let _ W0 HA.out HB.out k o ho
      have hpl := hR.plays (by omega) (by omega) (by rw [HZ.out]; omega) ⟨by omega, by omega, by omega⟩ o l1 l2 l3 (fun h0 b q e => by
        have := l4 h0 b q e
        exact ⟨by rw [HZ.out]; omega, HN.out b (by omega)⟩)
      have HPL : Hid _ := hpl
      clear hpl l1 l2 l3 l4 hCr hR ho
      go_wp2_with fail
      refine (Calls.mono HPL.out ?_)
      rintro e23 w2 ⟨rfl, hR2, _⟩
      have hst := hR2.stands
      have HR2 : Hid _ := hR2
      clear hR2 HPL d0 d1 d2 d3 d4 d5 d6
      go_wp2_with (first | (go_at_call 24; refine hst.mono ?_; rintro e24 w24 ⟨rfl, q24, rfl⟩) | fail)
      go_roundw
      case rel => exact ⟨k + 1, by omega, by go_num, PRel.drewN HR2.out q24⟩
      case measure => simp [intOf]; omega
    · have HR : Hid _ := hR
      clear hR
      go_wp2_with fail
      go_ret
      obtain ⟨s', hP', _, _, _, _, hS⟩ := HR.out
      refine ⟨rfl, HBW.out.trans ⟨hS.os, hS.tape, hS.output, hS.size, fun b hb => hS.block b (by rw [HZ.out]; omega) fun q => ?_⟩⟩
      have := new_has _ _ _ _ q
      omega
end Go.Proofs.Ytehjdkdoalmaeaa
