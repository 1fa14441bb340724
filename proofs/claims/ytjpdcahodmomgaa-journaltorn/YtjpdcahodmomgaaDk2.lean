import Derived.Test.YtjpdcahodmomgaaDk1
namespace Go.Proofs.Ytjpdcahodmomgaa
open Go.RowKit Go.PlainAid
set_option linter.unusedVariables false
set_option linter.unusedSimpArgs false
section
variable {L p s : Nat} {x : DV}
set_option maxRecDepth 100000 in
theorem isOn_any (w : World) (h : DM L p s x w) : Calls Try.prog 34 #[.pointer (some ⟨p, 0, none⟩)] w fun e w' => e = .returned (.bool (!x.off)) ∧ w' = w := by
  have c := h.k1
  clear h
  go_enter Try.func34, Try.ntmps34
  go_wp2_with fail
  go_ret
  exact ⟨rfl, rfl⟩
set_option maxRecDepth 100000 in
theorem writes_any (w : World) (h : DM L p s x w) : Calls Try.prog 26 #[.pointer (some ⟨p, 0, none⟩)] w fun e w' => e = .returned (.int .i64 (x.writes : Int)) ∧ w' = w := by
  have c := h.k5
  clear h
  go_enter Try.func26, Try.ntmps26
  go_wp2_with fail
  go_ret
  exact ⟨rfl, rfl⟩
set_option maxRecDepth 100000 in
theorem sectors_any (w : World) (h : DM L p s x w) : Calls Try.prog 35 #[.pointer (some ⟨p, 0, none⟩)] w fun e w' => e = .returned (.int .i64 (x.n : Int)) ∧ w' = w := by
  have c := h.k0
  clear h
  go_enter Try.func35, Try.ntmps35
  go_wp2_with fail
  go_ret
  exact ⟨rfl, rfl⟩
set_option maxRecDepth 100000 in
theorem on_any (w : World) (h : DM L p s x w) : Calls Try.prog 42 #[.pointer (some ⟨p, 0, none⟩)] w fun e w' => e = .returned (.tuple #[]) ∧ DM L p s { x with off := false } w' ∧ Chg (fun k => k = p) w w' := by
  have c := h.k1
  have f := h.fz 1
  have HD : Hid (DM L p s { x with off := false } (w.setCell ⟨p, 1, none⟩ (.bool false))) := h.setBox 1 (.bool false) rfl rfl fun C hC => hC.setOff false
  clear h
  go_enter Try.func42, Try.ntmps42
  go_wp2_with fail
  refine bodyPost_end (results_none rfl _ _ _) rfl ?_
  exact ⟨rfl, HD.out, setCell_chg _ _ _ _⟩
def DV.offed (x : DV) : DV := { x with off := true, armed := false, whole := 0, torn := 0 }
set_option maxRecDepth 100000 in
set_option maxHeartbeats 800000 in
theorem off_any (w : World) (h : DM L p s x w) : Calls Try.prog 48 #[.pointer (some ⟨p, 0, none⟩)] w fun e w' => e = .returned (.tuple #[]) ∧ DM L p s x.offed w' ∧ Chg (fun k => k = p) w w' := by
  have c := h.k1
  have f := h.fz 1
  have c2 := h.k2
  have c3 := h.k3
  have c4 := h.k4
  have f2 := h.fz 2
  have f3 := h.fz 3
  have f4 := h.fz 4
  have h1 : DM L p s { x with off := true } (w.setCell ⟨p, 1, none⟩ (.bool true)) := h.setBox 1 (.bool true) rfl rfl fun C hC => hC.setOff true
  have h2 := h1.setBox (y := { x with off := true, armed := false }) 2 (.bool false) rfl rfl fun C hC => hC.setArmed false
  have h3 := h2.setBox (y := { x with off := true, armed := false, whole := 0 }) 3 (.int .i64 ((0 : Nat) : Int)) rfl rfl fun C hC => hC.setWhole 0
  have HD : Hid _ := h3.setBox (y := x.offed) 4 (.int .i64 ((0 : Nat) : Int)) rfl rfl fun C hC => hC.setTorn 0
  clear h h1 h2 h3
  go_enter Try.func48, Try.ntmps48
  go_wp2_with fail
  refine bodyPost_end (results_none rfl _ _ _) rfl ?_
  exact ⟨rfl, HD.out, ((((Chg.refl _ w).trans (setCell_chg _ _ _ _) (fun _ _ e => e)).trans (setCell_chg _ _ _ _) (fun _ _ e => e)).trans (setCell_chg _ _ _ _) (fun _ _ e => e)).trans (setCell_chg _ _ _ _) (fun _ _ e => e)⟩
def DV.noted (x : DV) (i : Nat) : DV := { x with writes := x.writes + 1, tr := fun j => if j = x.writes % 64 then i else x.tr j }
set_option maxRecDepth 100000 in
set_option maxHeartbeats 1600000 in
theorem note_any (i : Nat) (w : World) (h : DM L p s x w) (hw : x.writes ≤ 1000000000000000000) : Calls Try.prog 64 #[.pointer (some ⟨p, 0, none⟩), .int .i64 (i : Int)] w fun e w' => e = .returned (.tuple #[]) ∧ DM L p s (x.noted i) w' ∧ Chg (fun k => k = p) w w' := by
  have c5 := h.k5
  have f5 := h.fz 5
  have ct := h.kt (x.writes % 64) (by omega)
  have ft := h.fz (6 + x.writes % 64)
  obtain ⟨m, hm⟩ : ∃ m, m = x.writes % 64 := ⟨_, rfl⟩
  have hm64 : m < 64 := by omega
  have HM : Hid (m = x.writes % 64) := hm
  have hmr : ((x.writes : Int)).tmod 64 = (m : Int) := by rw [Int.tmod_eq_emod_of_nonneg (by omega)]; omega
  have h1 : DM L p s { x with tr := fun j => if j = m then i else x.tr j } (w.setCell ⟨p, 6 + m, none⟩ (.int .i64 (i : Int))) := h.setBox (6 + m) _ rfl rfl fun C hC => hC.setTr m i hm64
  have h2 := h1.setBox (y := x.noted i) 5 (.int .i64 ((x.writes + 1 : Nat) : Int)) rfl rfl fun C hC => by
    have := hC.setWrites (x.writes + 1)
    unfold DV.noted
    rw [← hm]
    exact this
  have HD : Hid _ := h2
  rw [← hm] at ct ft
  have hne : ¬ (6 + m = 5) := by omega
  clear h h1 h2 hm
  go_enter Try.func64, Try.ntmps64
  go_wp2_with fail
  go_region
  go_wp2_with fail
  refine bodyPost_end (results_none rfl _ _ _) rfl ?_
  exact ⟨rfl, HD.out.drew _, (((Chg.refl _ w).trans (setCell_chg _ _ _ _) (fun _ _ e => e)).trans (setCell_chg _ _ _ _) (fun _ _ e => e)).drewN 1⟩
end
end Go.Proofs.Ytjpdcahodmomgaa
