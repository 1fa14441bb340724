import Derived.Test.YtnphkmdanicemaaGreatDoorVRt
import Derived.Deep.Cut
namespace Go.Proofs.YtnphkmdanicemaaGreatDoor
open Go.RowKit Go.PlainAid
set_option linter.unusedVariables false
set_option linter.unusedSimpArgs false
set_option maxRecDepth 100000 in
set_option maxHeartbeats 1600000 in
theorem rgood_any (n : List UInt8) (W : World) (hlim : n.length ≤ 140737488355328) : Calls Tryz.prog 93 #[.string ⟨n.toArray⟩] W fun e w' => e = .returned (.bool (nameB n)) ∧ w' = W := by
  have hsz : (⟨n.toArray⟩ : ByteArray).size = n.length := rfl
  by_cases h1 : n.length < 1
  · have hr : nameB n = false := by simp [nameB]; omega
    go_enter Tryz.func93, Tryz.ntmps93
    go_wp2_with fail
    go_ret
    exact ⟨by first | rfl | (rw [hr]; rfl) | simp [hr], rfl⟩
  by_cases h2 : 16 < n.length
  · have hr : nameB n = false := by simp [nameB]; omega
    go_enter Tryz.func93, Tryz.ntmps93
    go_wp2_with fail
    go_ret
    exact ⟨by first | rfl | (rw [hr]; rfl) | simp [hr], rfl⟩
  go_enter Tryz.func93, Tryz.ntmps93
  go_wp2_with fail
  go_loopw [3] (fun i wr => ∃ q : Nat, q ≤ n.length ∧ i = .int .i64 q ∧ (∀ x ∈ n.take q, okB x = true) ∧ wr = W) (fun i _ => n.length - (intOf i).toNat)
  case atStart => exact ⟨0, Nat.zero_le _, rfl, by simp, rfl⟩
  case round =>
    obtain ⟨q, hq, rfl, hpre, rfl⟩ := hrel
    by_cases hlt : q < n.length
    · obtain ⟨b, hbb⟩ : ∃ b, b = (⟨n.toArray⟩ : ByteArray)[q]'hlt := ⟨_, rfl⟩
      have hb : n[q]? = some b := by rw [hbb]; exact List.getElem?_eq_getElem hlt
      have HP : Hid _ := hpre
      have HB : Hid _ := hb
      clear hpre hb
      by_cases c1 : b.toNat < 33
      · have hr : nameB n = false := by
          have hall : n.all okB = false := by
            apply Bool.eq_false_iff.2
            intro h
            have := List.all_eq_true.1 h b (List.mem_of_getElem? HB.out)
            simp [okB] at this
            omega
          simp [nameB, hall]
        rw [hbb] at c1
        clear hbb
        go_wp2_with fail
        go_ret
        exact ⟨by first | rfl | (rw [hr]; rfl) | simp [hr], rfl⟩
      by_cases c2 : 126 < b.toNat
      · have hr : nameB n = false := by
          have hall : n.all okB = false := by
            apply Bool.eq_false_iff.2
            intro h
            have := List.all_eq_true.1 h b (List.mem_of_getElem? HB.out)
            simp [okB] at this
            omega
          simp [nameB, hall]
        rw [hbb] at c1 c2
        clear hbb
        go_wp2_with fail
        go_ret
        exact ⟨by first | rfl | (rw [hr]; rfl) | simp [hr], rfl⟩
      · have hok : okB b = true := by simp [okB]; omega
        have HOK : Hid _ := hok
        rw [hbb] at c1 c2
        clear hok
        go_wp2_with fail
        go_roundw
        case rel => exact ⟨q + 1, by omega, by go_num, by
          intro x hx
          rw [List.take_add_one, HB.out] at hx
          rcases List.mem_append.1 hx with h | h
          · exact HP.out x h
          · simp at h; subst h; exact HOK.out, by first | rfl | trivial⟩
        case measure => simp [intOf]; omega
    · have hr : nameB n = true := by
        have : n.take q = n := List.take_of_length_le (by omega)
        rw [this] at hpre
        simp [nameB]
        exact ⟨by omega, hpre⟩
      clear hpre
      go_wp2_with fail
      go_ret
      exact ⟨by first | rfl | (rw [hr]; rfl) | simp [hr], rfl⟩
theorem fits3 (c d u h : Int) : fitsL c [d, u, h] = (decide (0 ≤ d) && decide (0 ≤ u) && decide (0 ≤ h) && decide (d + u + h ≤ c)) := by
  simp only [fitsL]
  by_cases h1 : d < 0 ∨ c < d
  · rw [if_pos h1]
    by_cases q1 : 0 ≤ d <;> by_cases q2 : 0 ≤ u <;> by_cases q3 : 0 ≤ h <;> simp [q1, q2, q3] <;> omega
  · rw [if_neg h1]
    by_cases h2 : u < 0 ∨ c - d < u
    · rw [if_pos h2]
      by_cases q1 : 0 ≤ d <;> by_cases q2 : 0 ≤ u <;> by_cases q3 : 0 ≤ h <;> simp [q1, q2, q3] <;> omega
    · rw [if_neg h2]
      by_cases h3 : h < 0 ∨ c - d - u < h
      · rw [if_pos h3]
        by_cases q1 : 0 ≤ d <;> by_cases q2 : 0 ≤ u <;> by_cases q3 : 0 ≤ h <;> simp [q1, q2, q3] <;> omega
      · rw [if_neg h3]
        have q1 : 0 ≤ d := by omega
        have q2 : 0 ≤ u := by omega
        have q3 : 0 ≤ h := by omega
        simp [q1, q2, q3]
        omega
set_option maxRecDepth 100000 in
set_option maxHeartbeats 3200000 in
theorem rright_any (e : Ent) (W : World) (hs : e.sane) : Calls Tryz.prog 77 #[viewV e] W fun r w' => r = .returned (.bool e.right) ∧ Below W.heap.size W w' := by
  obtain ⟨er, n, c, rc, v, d, u, h⟩ := e
  obtain ⟨s1, s2, s3, s4⟩ := hs
  simp only at s1 s2 s3 s4
  unfold viewV
  simp only
  obtain ⟨W1, hW1⟩ : ∃ W1, W1 = W.alloc (.cells #[.string ⟨n.toArray⟩, .int .i64 c, .int .i64 rc, .int .i64 v, .int .i64 d, .int .i64 u, .int .i64 h] 105) := ⟨_, rfl⟩
  have hB := view_box ⟨er, n, c, rc, v, d, u, h⟩ W
  simp only at hB
  have HG : Hid (Below W.heap.size W W1) := show Below W.heap.size W W1 from by rw [hW1]; exact (Below.refl _ _).alloc (Nat.le_refl _) _
  rw [← hW1] at hB
  have c0 : W1.cell? ⟨W.heap.size, 0, none⟩ = some (.string ⟨n.toArray⟩) := hB.cell 0
  have c1 : W1.cell? ⟨W.heap.size, 1, none⟩ = some (.int .i64 c) := hB.cell 1
  have c2 : W1.cell? ⟨W.heap.size, 2, none⟩ = some (.int .i64 rc) := hB.cell 2
  have c3 : W1.cell? ⟨W.heap.size, 3, none⟩ = some (.int .i64 v) := hB.cell 3
  have c4 : W1.cell? ⟨W.heap.size, 4, none⟩ = some (.int .i64 d) := hB.cell 4
  have c5 : W1.cell? ⟨W.heap.size, 5, none⟩ = some (.int .i64 u) := hB.cell 5
  have c6 : W1.cell? ⟨W.heap.size, 6, none⟩ = some (.int .i64 h) := hB.cell 6
  have HNM : Hid _ := rgood_any n W1 s1
  have HA : Hid (Ent.right ⟨er, n, c, rc, v, d, u, h⟩ = (nameB n && decide (1 ≤ c) && decide (c ≤ 1099511627776) && decide (0 ≤ rc) && decide (1 ≤ v) && (decide (0 ≤ d) && decide (0 ≤ u) && decide (0 ≤ h) && decide (d + u + h ≤ c)))) := show _ = _ from by rw [← fits3]; rfl
  generalize Ent.right ⟨er, n, c, rc, v, d, u, h⟩ = R at HA ⊢
  clear hB
  go_enter Tryz.func77, Tryz.ntmps77
  go_upto_region 1 with fail
  rw [← hW1]
  clear hW1
  go_wp2_with fail
  refine Calls.mono HNM.out ?_
  rintro e w' ⟨rfl, hw'⟩
  replace hw' := hw'.symm
  subst hw'
  cases hn : nameB n with
  | false =>
    have HN : Hid _ := hn
    clear hn
    go_wp2_with fail
    go_ret
    exact ⟨ret_bool (by rw [HA.out, HN.out]; rfl), HG.out⟩
  | true =>
    have HN : Hid _ := hn
    clear hn
    by_cases k0 : c < 1
    · have HR : Hid (R = false) := show _ = _ from by rw [HA.out, show decide (1 ≤ c) = false from decide_eq_false (by omega)]; simp
      go_wp2_with fail
      go_ret
      exact ⟨ret_bool HR.out.symm, HG.out⟩
    by_cases k1 : 1099511627776 < c
    · have HR : Hid (R = false) := show _ = _ from by rw [HA.out, show decide (c ≤ 1099511627776) = false from decide_eq_false (by omega)]; simp
      go_wp2_with fail
      go_ret
      exact ⟨ret_bool HR.out.symm, HG.out⟩
    by_cases k2 : rc < 0
    · have HR : Hid (R = false) := show _ = _ from by rw [HA.out, show decide (0 ≤ rc) = false from decide_eq_false (by omega)]; simp
      go_wp2_with fail
      go_ret
      exact ⟨ret_bool HR.out.symm, HG.out⟩
    by_cases k3 : v < 1
    · have HR : Hid (R = false) := show _ = _ from by rw [HA.out, show decide (1 ≤ v) = false from decide_eq_false (by omega)]; simp
      go_wp2_with fail
      go_ret
      exact ⟨ret_bool HR.out.symm, HG.out⟩
    by_cases k4 : d < 0
    · have HR : Hid (R = false) := show _ = _ from by rw [HA.out, show decide (0 ≤ d) = false from decide_eq_false (by omega)]; simp
      go_wp2_with fail
      go_ret
      exact ⟨ret_bool HR.out.symm, HG.out⟩
    by_cases k5 : u < 0
    · have HR : Hid (R = false) := show _ = _ from by rw [HA.out, show decide (0 ≤ u) = false from decide_eq_false (by omega)]; simp
      go_wp2_with fail
      go_ret
      exact ⟨ret_bool HR.out.symm, HG.out⟩
    by_cases k6 : h < 0
    · have HR : Hid (R = false) := show _ = _ from by rw [HA.out, show decide (0 ≤ h) = false from decide_eq_false (by omega)]; simp
      go_wp2_with fail
      go_ret
      exact ⟨ret_bool HR.out.symm, HG.out⟩
    by_cases k7 : c < d
    · have HR : Hid (R = false) := show _ = _ from by rw [HA.out, show decide (d + u + h ≤ c) = false from decide_eq_false (by omega)]; simp
      go_wp2_with fail
      go_ret
      exact ⟨ret_bool HR.out.symm, HG.out⟩
    by_cases k8 : c < u
    · have HR : Hid (R = false) := show _ = _ from by rw [HA.out, show decide (d + u + h ≤ c) = false from decide_eq_false (by omega)]; simp
      go_wp2_with fail
      go_ret
      exact ⟨ret_bool HR.out.symm, HG.out⟩
    by_cases k9 : c < h
    · have HR : Hid (R = false) := show _ = _ from by rw [HA.out, show decide (d + u + h ≤ c) = false from decide_eq_false (by omega)]; simp
      go_wp2_with fail
      go_ret
      exact ⟨ret_bool HR.out.symm, HG.out⟩
    have hw1 : IntKind.i64.wrap (d + u) = d + u := by rw [IntKind.wrap_i64]; omega
    have hw2 : IntKind.i64.wrap (d + u + h) = d + u + h := by rw [IntKind.wrap_i64]; omega
    by_cases k10 : d + u + h ≤ c
    · have HR : Hid (R = true) := show _ = _ from by rw [HA.out, HN.out]; simp; omega
      go_wp2_with fail
      go_ret
      exact ⟨ret_bool HR.out.symm, HG.out⟩
    · have HR : Hid (R = false) := show _ = _ from by rw [HA.out, show decide (d + u + h ≤ c) = false from decide_eq_false (by omega)]; simp
      go_wp2_with fail
      go_ret
      exact ⟨ret_bool (by rw [HR.out]; exact decide_eq_false (by omega)), HG.out⟩
end Go.Proofs.YtnphkmdanicemaaGreatDoor
