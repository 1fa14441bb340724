import Derived.Test.YtlajcaofpmjdlaaAl
import Derived.Deep.Cut
namespace Go.Proofs.Ytlajcaofpmjdlaa
open Go.RowKit Go.PlainAid
set_option linter.unusedVariables false
set_option linter.unusedSimpArgs false
def lenTo (os : List OpV) (i : Nat) : Nat := ((os.take i).map fun o => o.bs.length).sum
theorem lenTo_succ {os : List OpV} {i : Nat} {o : OpV} (h : os[i]? = some o) : lenTo os (i + 1) = lenTo os i + o.bs.length := by
  unfold lenTo
  rw [List.take_add_one, h]
  simp
theorem lenTo_le {os : List OpV} {B : Nat} (h : ∀ o ∈ os, o.bs.length ≤ B) : ∀ i, lenTo os i ≤ i * B
  | 0 => by unfold lenTo; simp
  | i + 1 => by
    cases ho : os[i]? with
    | none =>
      have hl := List.getElem?_eq_none_iff.1 ho
      have := lenTo_le h i
      have e : lenTo os (i + 1) = lenTo os i := by unfold lenTo; rw [List.take_of_length_le (by omega), List.take_of_length_le (by omega)]
      rw [e, Nat.succ_mul]; omega
    | some o =>
      have := lenTo_le h i
      have h2 := h o (List.mem_of_getElem? ho)
      rw [lenTo_succ ho, Nat.succ_mul]; omega
theorem lenTo_mono {os : List OpV} : ∀ {i j : Nat}, i ≤ j → lenTo os i ≤ lenTo os j := by
  intro i j h
  induction h with
  | refl => exact Nat.le_refl _
  | @step m _ ih =>
    refine Nat.le_trans ih ?_
    cases ho : os[m]? with
    | none =>
      have hl := List.getElem?_eq_none_iff.1 ho
      have e : lenTo os (m + 1) = lenTo os m := by unfold lenTo; rw [List.take_of_length_le (by omega), List.take_of_length_le (by omega)]
      rw [e]; exact Nat.le_refl _
    | some o => rw [lenTo_succ ho]; omega
theorem lenTo_mem {os : List OpV} {o : OpV} (h : o ∈ os) : o.bs.length ≤ lenTo os os.length := by
  obtain ⟨i, hi⟩ := List.getElem?_of_mem h
  have hl := (List.getElem?_eq_some_iff.1 hi).1
  have := lenTo_mono (os := os) (show i + 1 ≤ os.length by omega)
  rw [lenTo_succ hi] at this
  omega
def FitO (os : List OpV) (vn : Nat) (w : World) (e : Ending) (w' : World) : Prop := ∃ b, e = .returned (.bool b) ∧ w' = w ∧ (b = true → os.length ≤ 300 ∧ (∀ o ∈ os, o.bs.length ≤ 4194304) ∧ vn ≤ 4194304)
def FitL (os : List OpV) (N : Nat) (m : Int) (i : Nat) : Prop := N ≤ 300 → m = (lenTo os i : Int)
set_option maxRecDepth 100000 in
set_option maxHeartbeats 6400000 in
theorem fits_any {L : Nat} {R : List (Ent L)} (sec : Int) {vo : Option Addr} {vn vc : Nat} {v : Value} {os : List OpV} (w : World) (hS : Scr L R w v os) (hN : os.length ≤ 9223372036854775806) (hB : ∀ o ∈ os, o.bs.length ≤ 1125899906842624) :
    Calls Try.prog 28 #[.int .i64 sec, .slice vo vn vc, v] w (FitO os vn w) := by
  obtain ⟨so, sc, hv⟩ := hS.sh
  obtain ⟨N, hNN⟩ : ∃ N, N = os.length := ⟨_, rfl⟩
  rw [← hNN] at hv hN
  have HS : Hid (Scr L R w v os) := hS
  have HV : Hid (v = .slice so N sc) := hv
  have HB : Hid (∀ o ∈ os, o.bs.length ≤ 1125899906842624) := hB
  have HN : Hid (N = os.length) := hNN
  subst hv
  clear hS hB hNN
  go_enter Try.func28, Try.ntmps28
  go_wp2_with fail
  go_loopw [7, 8, 9] (fun s7 s8 s9 wr => wr = w ∧ ∃ (i : Nat) (m im : Int), i ≤ N ∧ s9 = .int .i64 (i : Int) ∧ s7 = .int .i64 m ∧ s8 = .int .i64 im ∧ FitL os N m i) (fun _ _ s9 _ => N - (intOf s9).toNat)
  case atStart => exact ⟨rfl, 0, 0, 1, Nat.zero_le _, rfl, rfl, rfl, fun _ => by unfold lenTo; simp⟩
  case round =>
    obtain ⟨hw, i, m, im, hi, rfl, rfl, rfl, hm⟩ := hrel
    subst hw
    by_cases hlt : i < N
    · obtain ⟨o, ho⟩ : ∃ o, os[i]? = some o := ⟨os[i]'(by have := HN.out; omega), List.getElem?_eq_getElem _⟩
      have hom := List.mem_of_getElem? ho
      obtain ⟨g, f, cap, hve, c0, c1, c2, c3, c4⟩ := HS.out.cl i o ho
      have hso : so = some ⟨g, f, none⟩ := by cases hve; rfl
      obtain ⟨bo, bn, bc, hbv, hbl, _⟩ := (HS.out.by' o hom).1
      rw [hbv] at c4
      have hix := idx_run 51 58 5 Try.underlying51 (by kernel_rfl) wr g f N sc i hlt
      have HM : Hid (FitL os N (wrap64 (m + (bn : Int))) (i + 1)) := fun h3 => by
        have h1 := hm h3
        have h2 := HB.out o hom
        have h4 := lenTo_le HB.out i
        have h5 : i * 1125899906842624 ≤ 300 * 1125899906842624 := Nat.mul_le_mul_right _ (by omega)
        rw [lenTo_succ ho]
        unfold wrap64
        omega
      obtain ⟨ok, hok⟩ : ∃ k, k = o.kind := ⟨_, rfl⟩
      rw [← hok] at c0
      subst hso
      clear hve hm c1 c2 c3 hbv hbl hok
      by_cases hk : ok = 10
      · subst hk
        go_wp2_with fail
        go_roundw
        case rel => first | exact ⟨rfl, i + 1, _, _, by omega, by go_num, rfl, rfl, HM.out⟩ | exact ⟨trivial, i + 1, by omega, by go_num, HM.out⟩ | exact ⟨i + 1, _, _, by omega, by go_num, rfl, rfl, HM.out⟩ | exact ⟨trivial, i + 1, _, by omega, by go_num, rfl, HM.out⟩ | exact ⟨trivial, i + 1, _, _, by omega, by go_num, rfl, rfl, HM.out⟩
        case measure => simp [intOf]; omega
      · have hkb : (ok == 10) = false := by simpa using hk
        go_wp2_with fail
        go_roundw
        case rel => first | exact ⟨rfl, i + 1, _, _, by omega, by go_num, rfl, rfl, HM.out⟩ | exact ⟨trivial, i + 1, by omega, by go_num, HM.out⟩ | exact ⟨i + 1, _, _, by omega, by go_num, rfl, rfl, HM.out⟩ | exact ⟨trivial, i + 1, _, by omega, by go_num, rfl, HM.out⟩ | exact ⟨trivial, i + 1, _, _, by omega, by go_num, rfl, rfl, HM.out⟩
        case measure => simp [intOf]; omega
    · have hie : i = N := by omega
      have hilt : ¬ ((i : Int) < (N : Int)) := by omega
      have HM : Hid (N ≤ 300 → m = (lenTo os os.length : Int)) := fun h3 => by have h4 := hm h3; rw [h4, hie, HN.out]
      clear hm
      go_wp2_with fail
      all_goals go_ret
      all_goals first
        | exact ⟨false, rfl, rfl, fun h => Bool.noConfusion h⟩
        | (refine ⟨_, rfl, rfl, fun h => ?_⟩
           have h3 : N ≤ 300 := by omega
           have h4 := HM.out h3
           refine ⟨by rw [← HN.out]; exact h3, fun o ho => ?_, by omega⟩
           have := lenTo_mem ho
           omega)
end Go.Proofs.Ytlajcaofpmjdlaa
