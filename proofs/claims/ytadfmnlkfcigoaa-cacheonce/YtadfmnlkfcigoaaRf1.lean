import Derived.Test.YtadfmnlkfcigoaaRf0
import Derived.Test.YtadfmnlkfcigoaaJoinA
namespace Go.Proofs.Ytadfmnlkfcigoaa
open Go.RowKit Go.PlainAid Go.MapKept
set_option linter.unusedVariables false
set_option linter.unusedSimpArgs false
set_option maxRecDepth 100000 in
set_option maxHeartbeats 3200000 in
theorem mine_any {a : CA} {B rb : Nat} {r : RS} (s : Int) (w : World) (h : RC a B rb r w) (hok : COk a) :
    Calls Try.prog 35 #[.pointer (some ⟨rb, 0, none⟩), .int .i64 s] w fun e w' => e = .returned (.bool (decide (mine a.me a.rep a.ses s))) ∧ ∃ q, w' = w.drewN q := by
  have HC0 : Hid (w.cell? ⟨rb, 0, none⟩ = some (.int .i64 a.me) ∧ w.cell? ⟨rb, 1, none⟩ = some (.int .i64 a.rep) ∧ w.cell? ⟨rb, 2, none⟩ = some (.int .i64 a.ses)) := ⟨h.cell.1, h.cell.2.1, h.cell.2.2.1⟩
  have hr := hok.rep
  have hrn : ¬ a.rep = 0 := by omega
  clear h hok
  by_cases h1 : s < 0
  · rw [show decide (mine a.me a.rep a.ses s) = false from decide_eq_false (fun hh => by have := hh.1; omega)]
    go_enter Try.func35, Try.ntmps35
    go_wp2_with fail
    rename_i K hK
    try rw [show ∀ a : Act, a.put none undef = a from fun _ => rfl]
    refine wp_region_mix (fun wq => wq.cell? ⟨rb, 0, none⟩ = some (.int .i64 a.me) ∧ wq.cell? ⟨rb, 1, none⟩ = some (.int .i64 a.rep) ∧ wq.cell? ⟨rb, 2, none⟩ = some (.int .i64 a.ses)) (fun i => i == 99) 99 (by kernel_rfl) rfl (by kernel_rfl) (by kernel_rfl) (by kernel_rfl) ?_
    refine withFrP (N := 28) rfl ?_
    intro f0 F0 hff
    have e0 : f0 0 = Value.pointer (some ⟨rb, 0, none⟩) := hff 0
    have e1 : f0 1 = Value.int .i64 s := hff 1
    clear hff
    have HCC : (fun wq => wq.cell? ⟨rb, 0, none⟩ = some (.int .i64 a.me) ∧ wq.cell? ⟨rb, 1, none⟩ = some (.int .i64 a.rep) ∧ wq.cell? ⟨rb, 2, none⟩ = some (.int .i64 a.ses)) (({ w with drawn := w.drawn + 1 } : World)) := HC0.out
    refine lyp F0 rfl HCC rfl (by omega) (wanted_none rfl) (v := Value.int .i64 s) (fun wr hwr => by simp only [execOp, (F0.eval 1 (by omega)).trans (show _ = Value.int .i64 s from by simp [upd, e0, e1])]; first | rfl | simp [go_sem]) fun F1 => ?_
    refine lyp F1 rfl HCC rfl (by omega) (wanted_none rfl) (v := Value.bool false) (fun wr hwr => by simp only [execOp, (F1.eval 5 (by omega)).trans (show _ = Value.int .i64 s from by simp [upd, e0, e1])]; simp [go_sem, Act.eval]; omega) fun F2 => ?_
    refine lyp F2 rfl HCC rfl (by omega) (wanted_none rfl) (v := Value.bool false) (fun wr hwr => by simp only [execOp, (F2.eval 6 (by omega)).trans (show _ = Value.bool false from by simp [upd, e0, e1])]; first | rfl | simp [go_sem]) fun F3 => ?_
    refine lnp F3 rfl HCC rfl (by omega) (want_no F3 rfl (e := 7) rfl (by omega) (show _ = Value.bool false from by simp [upd, e0, e1]) (by decide)) fun F4 => ?_
    refine lnp F4 rfl HCC rfl (by omega) (want_no F4 rfl (e := 7) rfl (by omega) (show _ = Value.bool false from by simp [upd, e0, e1]) (by decide)) fun F5 => ?_
    refine lnp F5 rfl HCC rfl (by omega) (want_no F5 rfl (e := 7) rfl (by omega) (show _ = Value.bool false from by simp [upd, e0, e1]) (by decide)) fun F6 => ?_
    refine lnp F6 rfl HCC rfl (by omega) (want_no F6 rfl (e := 7) rfl (by omega) (show _ = Value.bool false from by simp [upd, e0, e1]) (by decide)) fun F7 => ?_
    refine lnp F7 rfl HCC rfl (by omega) (want_no F7 rfl (e := 7) rfl (by omega) (show _ = Value.bool false from by simp [upd, e0, e1]) (by decide)) fun F8 => ?_
    refine lnp F8 rfl HCC rfl (by omega) (want_no F8 rfl (e := 7) rfl (by omega) (show _ = Value.bool false from by simp [upd, e0, e1]) (by decide)) fun F9 => ?_
    refine lyp F9 rfl HCC rfl (by omega) (wanted_none rfl) (v := Value.bool false) (fun wr hwr => by simp only [execOp, (F9.eval 7 (by omega)).trans (show _ = Value.bool false from by simp [upd, e0, e1])]; simp [go_sem, Act.eval]) fun F10 => ?_
    refine lyp F10 rfl HCC rfl (by omega) (wanted_none rfl) (v := Value.bool false) (fun wr hwr => by simp only [execOp, (F10.eval 14 (by omega)).trans (show _ = Value.bool false from by simp [upd, e0, e1])]; first | rfl | simp [go_sem]) fun F11 => ?_
    refine lnp F11 rfl HCC rfl (by omega) (want_no F11 rfl (e := 15) rfl (by omega) (show _ = Value.bool false from by simp [upd, e0, e1]) (by decide)) fun F12 => ?_
    refine lnp F12 rfl HCC rfl (by omega) (want_no F12 rfl (e := 15) rfl (by omega) (show _ = Value.bool false from by simp [upd, e0, e1]) (by decide)) fun F13 => ?_
    refine lnp F13 rfl HCC rfl (by omega) (want_no F13 rfl (e := 15) rfl (by omega) (show _ = Value.bool false from by simp [upd, e0, e1]) (by decide)) fun F14 => ?_
    refine lnp F14 rfl HCC rfl (by omega) (want_no F14 rfl (e := 15) rfl (by omega) (show _ = Value.bool false from by simp [upd, e0, e1]) (by decide)) fun F15 => ?_
    refine lnp F15 rfl HCC rfl (by omega) (want_no F15 rfl (e := 15) rfl (by omega) (show _ = Value.bool false from by simp [upd, e0, e1]) (by decide)) fun F16 => ?_
    refine lnp F16 rfl HCC rfl (by omega) (want_no F16 rfl (e := 15) rfl (by omega) (show _ = Value.bool false from by simp [upd, e0, e1]) (by decide)) fun F17 => ?_
    refine lnp F17 rfl HCC rfl (by omega) (want_no F17 rfl (e := 15) rfl (by omega) (show _ = Value.bool false from by simp [upd, e0, e1]) (by decide)) fun F18 => ?_
    refine lnp F18 rfl HCC rfl (by omega) (want_no F18 rfl (e := 15) rfl (by omega) (show _ = Value.bool false from by simp [upd, e0, e1]) (by decide)) fun F19 => ?_
    refine lnp F19 rfl HCC rfl (by omega) (want_no F19 rfl (e := 15) rfl (by omega) (show _ = Value.bool false from by simp [upd, e0, e1]) (by decide)) fun F20 => ?_
    refine lnp F20 rfl HCC rfl (by omega) (want_no F20 rfl (e := 15) rfl (by omega) (show _ = Value.bool false from by simp [upd, e0, e1]) (by decide)) fun F21 => ?_
    refine lnp F21 rfl HCC rfl (by omega) (want_no F21 rfl (e := 15) rfl (by omega) (show _ = Value.bool false from by simp [upd, e0, e1]) (by decide)) fun F22 => ?_
    refine lyp F22 rfl HCC rfl (by omega) (wanted_none rfl) (v := Value.bool false) (fun wr hwr => by simp only [execOp, (F22.eval 15 (by omega)).trans (show _ = Value.bool false from by simp [upd, e0, e1])]; simp [go_sem, Act.eval]) fun F23 => ?_
    refine lyp F23 rfl HCC rfl (by omega) (wanted_none rfl) (v := Value.bool false) (fun wr hwr => by simp only [execOp, (F23.eval 27 (by omega)).trans (show _ = Value.bool false from by simp [upd, e0, e1])]; first | rfl | simp [go_sem]) fun F24 => ?_
    refine ⟨fun _ => HCC, ?_⟩
    refine hK _ _ ?_
    clear F0 F1 F2 F3 F4 F5 F6 F7 F8 F9 F10 F11 F12 F13 F14 F15 F16 F17 F18 F19 F20 F21 F22 F23 F24 e0 e1 HCC
    simp only [Act.put, List.setIfInBounds_toArray, List.set_cons_succ, List.set_cons_zero]
    go_wp2_with fail
    go_ret
    exact ⟨rfl, 1, rfl⟩
  by_cases h2 : a.ses ≤ s
  · rw [show decide (mine a.me a.rep a.ses s) = false from decide_eq_false (fun hh => by have := hh.2.1; omega)]
    go_enter Try.func35, Try.ntmps35
    go_wp2_with fail
    rename_i K hK
    try rw [show ∀ a : Act, a.put none undef = a from fun _ => rfl]
    refine wp_region_mix (fun wq => wq.cell? ⟨rb, 0, none⟩ = some (.int .i64 a.me) ∧ wq.cell? ⟨rb, 1, none⟩ = some (.int .i64 a.rep) ∧ wq.cell? ⟨rb, 2, none⟩ = some (.int .i64 a.ses)) (fun i => i == 99) 99 (by kernel_rfl) rfl (by kernel_rfl) (by kernel_rfl) (by kernel_rfl) ?_
    refine withFrP (N := 28) rfl ?_
    intro f0 F0 hff
    have e0 : f0 0 = Value.pointer (some ⟨rb, 0, none⟩) := hff 0
    have e1 : f0 1 = Value.int .i64 s := hff 1
    clear hff
    have HCC : (fun wq => wq.cell? ⟨rb, 0, none⟩ = some (.int .i64 a.me) ∧ wq.cell? ⟨rb, 1, none⟩ = some (.int .i64 a.rep) ∧ wq.cell? ⟨rb, 2, none⟩ = some (.int .i64 a.ses)) (({ w with drawn := w.drawn + 1 } : World)) := HC0.out
    refine lyp F0 rfl HCC rfl (by omega) (wanted_none rfl) (v := Value.int .i64 s) (fun wr hwr => by simp only [execOp, (F0.eval 1 (by omega)).trans (show _ = Value.int .i64 s from by simp [upd, e0, e1])]; first | rfl | simp [go_sem]) fun F1 => ?_
    refine lyp F1 rfl HCC rfl (by omega) (wanted_none rfl) (v := Value.bool true) (fun wr hwr => by simp only [execOp, (F1.eval 5 (by omega)).trans (show _ = Value.int .i64 s from by simp [upd, e0, e1])]; simp [go_sem, Act.eval]; omega) fun F2 => ?_
    refine lyp F2 rfl HCC rfl (by omega) (wanted_none rfl) (v := Value.bool true) (fun wr hwr => by simp only [execOp, (F2.eval 6 (by omega)).trans (show _ = Value.bool true from by simp [upd, e0, e1])]; first | rfl | simp [go_sem]) fun F3 => ?_
    refine lyp F3 rfl HCC rfl (by omega) (want_yes F3 rfl (e := 7) rfl (by omega) (show _ = Value.bool true from by simp [upd, e0, e1])) (v := Value.int .i64 s) (fun wr hwr => by simp only [execOp, (F3.eval 1 (by omega)).trans (show _ = Value.int .i64 s from by simp [upd, e0, e1])]; first | rfl | simp [go_sem]) fun F4 => ?_
    refine lyp F4 rfl HCC rfl (by omega) (want_yes F4 rfl (e := 7) rfl (by omega) (show _ = Value.bool true from by simp [upd, e0, e1])) (v := Value.pointer (some ⟨rb, 0, none⟩)) (fun wr hwr => by simp only [execOp, (F4.eval 0 (by omega)).trans (show _ = Value.pointer (some ⟨rb, 0, none⟩) from by simp [upd, e0, e1])]; first | rfl | simp [go_sem]) fun F5 => ?_
    refine lyp F5 rfl HCC rfl (by omega) (want_yes F5 rfl (e := 7) rfl (by omega) (show _ = Value.bool true from by simp [upd, e0, e1])) (v := Value.pointer (some ⟨rb, 0, none⟩)) (fun wr hwr => by simp only [execOp, (F5.eval 9 (by omega)).trans (show _ = Value.pointer (some ⟨rb, 0, none⟩) from by simp [upd, e0, e1])]; simp [go_sem]) fun F6 => ?_
    refine lyp F6 rfl HCC rfl (by omega) (want_yes F6 rfl (e := 7) rfl (by omega) (show _ = Value.bool true from by simp [upd, e0, e1])) (v := Value.pointer (some ⟨rb, 2, none⟩)) (fun wr hwr => by simp only [execOp, (F6.eval 10 (by omega)).trans (show _ = Value.pointer (some ⟨rb, 0, none⟩) from by simp [upd, e0, e1])]; simp [go_sem]) fun F7 => ?_
    refine lyp F7 rfl HCC rfl (by omega) (want_yes F7 rfl (e := 7) rfl (by omega) (show _ = Value.bool true from by simp [upd, e0, e1])) (v := Value.int .i64 a.ses) (fun wr hwr => by simp only [execOp, (F7.eval 11 (by omega)).trans (show _ = Value.pointer (some ⟨rb, 2, none⟩) from by simp [upd, e0, e1])]; simp [go_sem, hwr.2.2]) fun F8 => ?_
    refine lyp F8 rfl HCC rfl (by omega) (want_yes F8 rfl (e := 7) rfl (by omega) (show _ = Value.bool true from by simp [upd, e0, e1])) (v := Value.bool false) (fun wr hwr => by simp only [execOp, (F8.eval 8 (by omega)).trans (show _ = Value.int .i64 s from by simp [upd, e0, e1]), (F8.eval 12 (by omega)).trans (show _ = Value.int .i64 a.ses from by simp [upd, e0, e1])]; simp [go_sem, Act.eval]; omega) fun F9 => ?_
    refine lyp F9 rfl HCC rfl (by omega) (wanted_none rfl) (v := Value.bool false) (fun wr hwr => by simp only [execOp, (F9.eval 7 (by omega)).trans (show _ = Value.bool true from by simp [upd, e0, e1]), (F9.eval 13 (by omega)).trans (show _ = Value.bool false from by simp [upd, e0, e1])]; simp [go_sem, Act.eval]) fun F10 => ?_
    refine lyp F10 rfl HCC rfl (by omega) (wanted_none rfl) (v := Value.bool false) (fun wr hwr => by simp only [execOp, (F10.eval 14 (by omega)).trans (show _ = Value.bool false from by simp [upd, e0, e1])]; first | rfl | simp [go_sem]) fun F11 => ?_
    refine lnp F11 rfl HCC rfl (by omega) (want_no F11 rfl (e := 15) rfl (by omega) (show _ = Value.bool false from by simp [upd, e0, e1]) (by decide)) fun F12 => ?_
    refine lnp F12 rfl HCC rfl (by omega) (want_no F12 rfl (e := 15) rfl (by omega) (show _ = Value.bool false from by simp [upd, e0, e1]) (by decide)) fun F13 => ?_
    refine lnp F13 rfl HCC rfl (by omega) (want_no F13 rfl (e := 15) rfl (by omega) (show _ = Value.bool false from by simp [upd, e0, e1]) (by decide)) fun F14 => ?_
    refine lnp F14 rfl HCC rfl (by omega) (want_no F14 rfl (e := 15) rfl (by omega) (show _ = Value.bool false from by simp [upd, e0, e1]) (by decide)) fun F15 => ?_
    refine lnp F15 rfl HCC rfl (by omega) (want_no F15 rfl (e := 15) rfl (by omega) (show _ = Value.bool false from by simp [upd, e0, e1]) (by decide)) fun F16 => ?_
    refine lnp F16 rfl HCC rfl (by omega) (want_no F16 rfl (e := 15) rfl (by omega) (show _ = Value.bool false from by simp [upd, e0, e1]) (by decide)) fun F17 => ?_
    refine lnp F17 rfl HCC rfl (by omega) (want_no F17 rfl (e := 15) rfl (by omega) (show _ = Value.bool false from by simp [upd, e0, e1]) (by decide)) fun F18 => ?_
    refine lnp F18 rfl HCC rfl (by omega) (want_no F18 rfl (e := 15) rfl (by omega) (show _ = Value.bool false from by simp [upd, e0, e1]) (by decide)) fun F19 => ?_
    refine lnp F19 rfl HCC rfl (by omega) (want_no F19 rfl (e := 15) rfl (by omega) (show _ = Value.bool false from by simp [upd, e0, e1]) (by decide)) fun F20 => ?_
    refine lnp F20 rfl HCC rfl (by omega) (want_no F20 rfl (e := 15) rfl (by omega) (show _ = Value.bool false from by simp [upd, e0, e1]) (by decide)) fun F21 => ?_
    refine lnp F21 rfl HCC rfl (by omega) (want_no F21 rfl (e := 15) rfl (by omega) (show _ = Value.bool false from by simp [upd, e0, e1]) (by decide)) fun F22 => ?_
    refine lyp F22 rfl HCC rfl (by omega) (wanted_none rfl) (v := Value.bool false) (fun wr hwr => by simp only [execOp, (F22.eval 15 (by omega)).trans (show _ = Value.bool false from by simp [upd, e0, e1])]; simp [go_sem, Act.eval]) fun F23 => ?_
    refine lyp F23 rfl HCC rfl (by omega) (wanted_none rfl) (v := Value.bool false) (fun wr hwr => by simp only [execOp, (F23.eval 27 (by omega)).trans (show _ = Value.bool false from by simp [upd, e0, e1])]; first | rfl | simp [go_sem]) fun F24 => ?_
    refine ⟨fun _ => HCC, ?_⟩
    refine hK _ _ ?_
    clear F0 F1 F2 F3 F4 F5 F6 F7 F8 F9 F10 F11 F12 F13 F14 F15 F16 F17 F18 F19 F20 F21 F22 F23 F24 e0 e1 HCC
    simp only [Act.put, List.setIfInBounds_toArray, List.set_cons_succ, List.set_cons_zero]
    go_wp2_with fail
    go_ret
    exact ⟨rfl, 1, rfl⟩
  by_cases hk : Int.tmod s a.rep = a.me
  · rw [show decide (mine a.me a.rep a.ses s) = true from decide_eq_true ⟨by omega, by omega, hk⟩]
    go_enter Try.func35, Try.ntmps35
    go_wp2_with fail
    rename_i K hK
    try rw [show ∀ a : Act, a.put none undef = a from fun _ => rfl]
    refine wp_region_mix (fun wq => wq.cell? ⟨rb, 0, none⟩ = some (.int .i64 a.me) ∧ wq.cell? ⟨rb, 1, none⟩ = some (.int .i64 a.rep) ∧ wq.cell? ⟨rb, 2, none⟩ = some (.int .i64 a.ses)) (fun i => i == 99) 99 (by kernel_rfl) rfl (by kernel_rfl) (by kernel_rfl) (by kernel_rfl) ?_
    refine withFrP (N := 28) rfl ?_
    intro f0 F0 hff
    have e0 : f0 0 = Value.pointer (some ⟨rb, 0, none⟩) := hff 0
    have e1 : f0 1 = Value.int .i64 s := hff 1
    clear hff
    have HCC : (fun wq => wq.cell? ⟨rb, 0, none⟩ = some (.int .i64 a.me) ∧ wq.cell? ⟨rb, 1, none⟩ = some (.int .i64 a.rep) ∧ wq.cell? ⟨rb, 2, none⟩ = some (.int .i64 a.ses)) (({ w with drawn := w.drawn + 1 } : World)) := HC0.out
    refine lyp F0 rfl HCC rfl (by omega) (wanted_none rfl) (v := Value.int .i64 s) (fun wr hwr => by simp only [execOp, (F0.eval 1 (by omega)).trans (show _ = Value.int .i64 s from by simp [upd, e0, e1])]; first | rfl | simp [go_sem]) fun F1 => ?_
    refine lyp F1 rfl HCC rfl (by omega) (wanted_none rfl) (v := Value.bool true) (fun wr hwr => by simp only [execOp, (F1.eval 5 (by omega)).trans (show _ = Value.int .i64 s from by simp [upd, e0, e1])]; simp [go_sem, Act.eval]; omega) fun F2 => ?_
    refine lyp F2 rfl HCC rfl (by omega) (wanted_none rfl) (v := Value.bool true) (fun wr hwr => by simp only [execOp, (F2.eval 6 (by omega)).trans (show _ = Value.bool true from by simp [upd, e0, e1])]; first | rfl | simp [go_sem]) fun F3 => ?_
    refine lyp F3 rfl HCC rfl (by omega) (want_yes F3 rfl (e := 7) rfl (by omega) (show _ = Value.bool true from by simp [upd, e0, e1])) (v := Value.int .i64 s) (fun wr hwr => by simp only [execOp, (F3.eval 1 (by omega)).trans (show _ = Value.int .i64 s from by simp [upd, e0, e1])]; first | rfl | simp [go_sem]) fun F4 => ?_
    refine lyp F4 rfl HCC rfl (by omega) (want_yes F4 rfl (e := 7) rfl (by omega) (show _ = Value.bool true from by simp [upd, e0, e1])) (v := Value.pointer (some ⟨rb, 0, none⟩)) (fun wr hwr => by simp only [execOp, (F4.eval 0 (by omega)).trans (show _ = Value.pointer (some ⟨rb, 0, none⟩) from by simp [upd, e0, e1])]; first | rfl | simp [go_sem]) fun F5 => ?_
    refine lyp F5 rfl HCC rfl (by omega) (want_yes F5 rfl (e := 7) rfl (by omega) (show _ = Value.bool true from by simp [upd, e0, e1])) (v := Value.pointer (some ⟨rb, 0, none⟩)) (fun wr hwr => by simp only [execOp, (F5.eval 9 (by omega)).trans (show _ = Value.pointer (some ⟨rb, 0, none⟩) from by simp [upd, e0, e1])]; simp [go_sem]) fun F6 => ?_
    refine lyp F6 rfl HCC rfl (by omega) (want_yes F6 rfl (e := 7) rfl (by omega) (show _ = Value.bool true from by simp [upd, e0, e1])) (v := Value.pointer (some ⟨rb, 2, none⟩)) (fun wr hwr => by simp only [execOp, (F6.eval 10 (by omega)).trans (show _ = Value.pointer (some ⟨rb, 0, none⟩) from by simp [upd, e0, e1])]; simp [go_sem]) fun F7 => ?_
    refine lyp F7 rfl HCC rfl (by omega) (want_yes F7 rfl (e := 7) rfl (by omega) (show _ = Value.bool true from by simp [upd, e0, e1])) (v := Value.int .i64 a.ses) (fun wr hwr => by simp only [execOp, (F7.eval 11 (by omega)).trans (show _ = Value.pointer (some ⟨rb, 2, none⟩) from by simp [upd, e0, e1])]; simp [go_sem, hwr.2.2]) fun F8 => ?_
    refine lyp F8 rfl HCC rfl (by omega) (want_yes F8 rfl (e := 7) rfl (by omega) (show _ = Value.bool true from by simp [upd, e0, e1])) (v := Value.bool true) (fun wr hwr => by simp only [execOp, (F8.eval 8 (by omega)).trans (show _ = Value.int .i64 s from by simp [upd, e0, e1]), (F8.eval 12 (by omega)).trans (show _ = Value.int .i64 a.ses from by simp [upd, e0, e1])]; simp [go_sem, Act.eval]; omega) fun F9 => ?_
    refine lyp F9 rfl HCC rfl (by omega) (wanted_none rfl) (v := Value.bool true) (fun wr hwr => by simp only [execOp, (F9.eval 7 (by omega)).trans (show _ = Value.bool true from by simp [upd, e0, e1]), (F9.eval 13 (by omega)).trans (show _ = Value.bool true from by simp [upd, e0, e1])]; simp [go_sem, Act.eval]) fun F10 => ?_
    refine lyp F10 rfl HCC rfl (by omega) (wanted_none rfl) (v := Value.bool true) (fun wr hwr => by simp only [execOp, (F10.eval 14 (by omega)).trans (show _ = Value.bool true from by simp [upd, e0, e1])]; first | rfl | simp [go_sem]) fun F11 => ?_
    refine lyp F11 rfl HCC rfl (by omega) (want_yes F11 rfl (e := 15) rfl (by omega) (show _ = Value.bool true from by simp [upd, e0, e1])) (v := Value.int .i64 s) (fun wr hwr => by simp only [execOp, (F11.eval 1 (by omega)).trans (show _ = Value.int .i64 s from by simp [upd, e0, e1])]; first | rfl | simp [go_sem]) fun F12 => ?_
    refine lyp F12 rfl HCC rfl (by omega) (want_yes F12 rfl (e := 15) rfl (by omega) (show _ = Value.bool true from by simp [upd, e0, e1])) (v := Value.pointer (some ⟨rb, 0, none⟩)) (fun wr hwr => by simp only [execOp, (F12.eval 0 (by omega)).trans (show _ = Value.pointer (some ⟨rb, 0, none⟩) from by simp [upd, e0, e1])]; first | rfl | simp [go_sem]) fun F13 => ?_
    refine lyp F13 rfl HCC rfl (by omega) (want_yes F13 rfl (e := 15) rfl (by omega) (show _ = Value.bool true from by simp [upd, e0, e1])) (v := Value.pointer (some ⟨rb, 0, none⟩)) (fun wr hwr => by simp only [execOp, (F13.eval 17 (by omega)).trans (show _ = Value.pointer (some ⟨rb, 0, none⟩) from by simp [upd, e0, e1])]; simp [go_sem]) fun F14 => ?_
    refine lyp F14 rfl HCC rfl (by omega) (want_yes F14 rfl (e := 15) rfl (by omega) (show _ = Value.bool true from by simp [upd, e0, e1])) (v := Value.pointer (some ⟨rb, 1, none⟩)) (fun wr hwr => by simp only [execOp, (F14.eval 18 (by omega)).trans (show _ = Value.pointer (some ⟨rb, 0, none⟩) from by simp [upd, e0, e1])]; simp [go_sem]) fun F15 => ?_
    refine lyp F15 rfl HCC rfl (by omega) (want_yes F15 rfl (e := 15) rfl (by omega) (show _ = Value.bool true from by simp [upd, e0, e1])) (v := Value.int .i64 a.rep) (fun wr hwr => by simp only [execOp, (F15.eval 19 (by omega)).trans (show _ = Value.pointer (some ⟨rb, 1, none⟩) from by simp [upd, e0, e1])]; simp [go_sem, hwr.2.1]) fun F16 => ?_
    refine lyp F16 rfl HCC rfl (by omega) (want_yes F16 rfl (e := 15) rfl (by omega) (show _ = Value.bool true from by simp [upd, e0, e1])) (v := Value.int .i64 (Int.tmod s a.rep)) (fun wr hwr => by simp only [execOp, (F16.eval 16 (by omega)).trans (show _ = Value.int .i64 s from by simp [upd, e0, e1]), (F16.eval 20 (by omega)).trans (show _ = Value.int .i64 a.rep from by simp [upd, e0, e1])]; simp [go_sem, Act.eval, hrn]) fun F17 => ?_
    refine lyp F17 rfl HCC rfl (by omega) (want_yes F17 rfl (e := 15) rfl (by omega) (show _ = Value.bool true from by simp [upd, e0, e1])) (v := Value.pointer (some ⟨rb, 0, none⟩)) (fun wr hwr => by simp only [execOp, (F17.eval 0 (by omega)).trans (show _ = Value.pointer (some ⟨rb, 0, none⟩) from by simp [upd, e0, e1])]; first | rfl | simp [go_sem]) fun F18 => ?_
    refine lyp F18 rfl HCC rfl (by omega) (want_yes F18 rfl (e := 15) rfl (by omega) (show _ = Value.bool true from by simp [upd, e0, e1])) (v := Value.pointer (some ⟨rb, 0, none⟩)) (fun wr hwr => by simp only [execOp, (F18.eval 22 (by omega)).trans (show _ = Value.pointer (some ⟨rb, 0, none⟩) from by simp [upd, e0, e1])]; simp [go_sem]) fun F19 => ?_
    refine lyp F19 rfl HCC rfl (by omega) (want_yes F19 rfl (e := 15) rfl (by omega) (show _ = Value.bool true from by simp [upd, e0, e1])) (v := Value.pointer (some ⟨rb, 0, none⟩)) (fun wr hwr => by simp only [execOp, (F19.eval 23 (by omega)).trans (show _ = Value.pointer (some ⟨rb, 0, none⟩) from by simp [upd, e0, e1])]; simp [go_sem]) fun F20 => ?_
    refine lyp F20 rfl HCC rfl (by omega) (want_yes F20 rfl (e := 15) rfl (by omega) (show _ = Value.bool true from by simp [upd, e0, e1])) (v := Value.int .i64 a.me) (fun wr hwr => by simp only [execOp, (F20.eval 24 (by omega)).trans (show _ = Value.pointer (some ⟨rb, 0, none⟩) from by simp [upd, e0, e1])]; simp [go_sem, hwr.1]) fun F21 => ?_
    refine lyp F21 rfl HCC rfl (by omega) (want_yes F21 rfl (e := 15) rfl (by omega) (show _ = Value.bool true from by simp [upd, e0, e1])) (v := Value.bool true) (fun wr hwr => by simp only [execOp, (F21.eval 21 (by omega)).trans (show _ = Value.int .i64 (Int.tmod s a.rep) from by simp [upd, e0, e1]), (F21.eval 25 (by omega)).trans (show _ = Value.int .i64 a.me from by simp [upd, e0, e1])]; simp [go_sem, Act.eval, hk]) fun F22 => ?_
    refine lyp F22 rfl HCC rfl (by omega) (wanted_none rfl) (v := Value.bool true) (fun wr hwr => by simp only [execOp, (F22.eval 15 (by omega)).trans (show _ = Value.bool true from by simp [upd, e0, e1]), (F22.eval 26 (by omega)).trans (show _ = Value.bool true from by simp [upd, e0, e1])]; simp [go_sem, Act.eval]) fun F23 => ?_
    refine lyp F23 rfl HCC rfl (by omega) (wanted_none rfl) (v := Value.bool true) (fun wr hwr => by simp only [execOp, (F23.eval 27 (by omega)).trans (show _ = Value.bool true from by simp [upd, e0, e1])]; first | rfl | simp [go_sem]) fun F24 => ?_
    refine ⟨fun _ => HCC, ?_⟩
    refine hK _ _ ?_
    clear F0 F1 F2 F3 F4 F5 F6 F7 F8 F9 F10 F11 F12 F13 F14 F15 F16 F17 F18 F19 F20 F21 F22 F23 F24 e0 e1 HCC
    simp only [Act.put, List.setIfInBounds_toArray, List.set_cons_succ, List.set_cons_zero]
    go_wp2_with fail
    go_ret
    exact ⟨rfl, 1, rfl⟩
  · rw [show decide (mine a.me a.rep a.ses s) = false from decide_eq_false (fun hh => hk hh.2.2)]
    go_enter Try.func35, Try.ntmps35
    go_wp2_with fail
    rename_i K hK
    try rw [show ∀ a : Act, a.put none undef = a from fun _ => rfl]
    refine wp_region_mix (fun wq => wq.cell? ⟨rb, 0, none⟩ = some (.int .i64 a.me) ∧ wq.cell? ⟨rb, 1, none⟩ = some (.int .i64 a.rep) ∧ wq.cell? ⟨rb, 2, none⟩ = some (.int .i64 a.ses)) (fun i => i == 99) 99 (by kernel_rfl) rfl (by kernel_rfl) (by kernel_rfl) (by kernel_rfl) ?_
    refine withFrP (N := 28) rfl ?_
    intro f0 F0 hff
    have e0 : f0 0 = Value.pointer (some ⟨rb, 0, none⟩) := hff 0
    have e1 : f0 1 = Value.int .i64 s := hff 1
    clear hff
    have HCC : (fun wq => wq.cell? ⟨rb, 0, none⟩ = some (.int .i64 a.me) ∧ wq.cell? ⟨rb, 1, none⟩ = some (.int .i64 a.rep) ∧ wq.cell? ⟨rb, 2, none⟩ = some (.int .i64 a.ses)) (({ w with drawn := w.drawn + 1 } : World)) := HC0.out
    refine lyp F0 rfl HCC rfl (by omega) (wanted_none rfl) (v := Value.int .i64 s) (fun wr hwr => by simp only [execOp, (F0.eval 1 (by omega)).trans (show _ = Value.int .i64 s from by simp [upd, e0, e1])]; first | rfl | simp [go_sem]) fun F1 => ?_
    refine lyp F1 rfl HCC rfl (by omega) (wanted_none rfl) (v := Value.bool true) (fun wr hwr => by simp only [execOp, (F1.eval 5 (by omega)).trans (show _ = Value.int .i64 s from by simp [upd, e0, e1])]; simp [go_sem, Act.eval]; omega) fun F2 => ?_
    refine lyp F2 rfl HCC rfl (by omega) (wanted_none rfl) (v := Value.bool true) (fun wr hwr => by simp only [execOp, (F2.eval 6 (by omega)).trans (show _ = Value.bool true from by simp [upd, e0, e1])]; first | rfl | simp [go_sem]) fun F3 => ?_
    refine lyp F3 rfl HCC rfl (by omega) (want_yes F3 rfl (e := 7) rfl (by omega) (show _ = Value.bool true from by simp [upd, e0, e1])) (v := Value.int .i64 s) (fun wr hwr => by simp only [execOp, (F3.eval 1 (by omega)).trans (show _ = Value.int .i64 s from by simp [upd, e0, e1])]; first | rfl | simp [go_sem]) fun F4 => ?_
    refine lyp F4 rfl HCC rfl (by omega) (want_yes F4 rfl (e := 7) rfl (by omega) (show _ = Value.bool true from by simp [upd, e0, e1])) (v := Value.pointer (some ⟨rb, 0, none⟩)) (fun wr hwr => by simp only [execOp, (F4.eval 0 (by omega)).trans (show _ = Value.pointer (some ⟨rb, 0, none⟩) from by simp [upd, e0, e1])]; first | rfl | simp [go_sem]) fun F5 => ?_
    refine lyp F5 rfl HCC rfl (by omega) (want_yes F5 rfl (e := 7) rfl (by omega) (show _ = Value.bool true from by simp [upd, e0, e1])) (v := Value.pointer (some ⟨rb, 0, none⟩)) (fun wr hwr => by simp only [execOp, (F5.eval 9 (by omega)).trans (show _ = Value.pointer (some ⟨rb, 0, none⟩) from by simp [upd, e0, e1])]; simp [go_sem]) fun F6 => ?_
    refine lyp F6 rfl HCC rfl (by omega) (want_yes F6 rfl (e := 7) rfl (by omega) (show _ = Value.bool true from by simp [upd, e0, e1])) (v := Value.pointer (some ⟨rb, 2, none⟩)) (fun wr hwr => by simp only [execOp, (F6.eval 10 (by omega)).trans (show _ = Value.pointer (some ⟨rb, 0, none⟩) from by simp [upd, e0, e1])]; simp [go_sem]) fun F7 => ?_
    refine lyp F7 rfl HCC rfl (by omega) (want_yes F7 rfl (e := 7) rfl (by omega) (show _ = Value.bool true from by simp [upd, e0, e1])) (v := Value.int .i64 a.ses) (fun wr hwr => by simp only [execOp, (F7.eval 11 (by omega)).trans (show _ = Value.pointer (some ⟨rb, 2, none⟩) from by simp [upd, e0, e1])]; simp [go_sem, hwr.2.2]) fun F8 => ?_
    refine lyp F8 rfl HCC rfl (by omega) (want_yes F8 rfl (e := 7) rfl (by omega) (show _ = Value.bool true from by simp [upd, e0, e1])) (v := Value.bool true) (fun wr hwr => by simp only [execOp, (F8.eval 8 (by omega)).trans (show _ = Value.int .i64 s from by simp [upd, e0, e1]), (F8.eval 12 (by omega)).trans (show _ = Value.int .i64 a.ses from by simp [upd, e0, e1])]; simp [go_sem, Act.eval]; omega) fun F9 => ?_
    refine lyp F9 rfl HCC rfl (by omega) (wanted_none rfl) (v := Value.bool true) (fun wr hwr => by simp only [execOp, (F9.eval 7 (by omega)).trans (show _ = Value.bool true from by simp [upd, e0, e1]), (F9.eval 13 (by omega)).trans (show _ = Value.bool true from by simp [upd, e0, e1])]; simp [go_sem, Act.eval]) fun F10 => ?_
    refine lyp F10 rfl HCC rfl (by omega) (wanted_none rfl) (v := Value.bool true) (fun wr hwr => by simp only [execOp, (F10.eval 14 (by omega)).trans (show _ = Value.bool true from by simp [upd, e0, e1])]; first | rfl | simp [go_sem]) fun F11 => ?_
    refine lyp F11 rfl HCC rfl (by omega) (want_yes F11 rfl (e := 15) rfl (by omega) (show _ = Value.bool true from by simp [upd, e0, e1])) (v := Value.int .i64 s) (fun wr hwr => by simp only [execOp, (F11.eval 1 (by omega)).trans (show _ = Value.int .i64 s from by simp [upd, e0, e1])]; first | rfl | simp [go_sem]) fun F12 => ?_
    refine lyp F12 rfl HCC rfl (by omega) (want_yes F12 rfl (e := 15) rfl (by omega) (show _ = Value.bool true from by simp [upd, e0, e1])) (v := Value.pointer (some ⟨rb, 0, none⟩)) (fun wr hwr => by simp only [execOp, (F12.eval 0 (by omega)).trans (show _ = Value.pointer (some ⟨rb, 0, none⟩) from by simp [upd, e0, e1])]; first | rfl | simp [go_sem]) fun F13 => ?_
    refine lyp F13 rfl HCC rfl (by omega) (want_yes F13 rfl (e := 15) rfl (by omega) (show _ = Value.bool true from by simp [upd, e0, e1])) (v := Value.pointer (some ⟨rb, 0, none⟩)) (fun wr hwr => by simp only [execOp, (F13.eval 17 (by omega)).trans (show _ = Value.pointer (some ⟨rb, 0, none⟩) from by simp [upd, e0, e1])]; simp [go_sem]) fun F14 => ?_
    refine lyp F14 rfl HCC rfl (by omega) (want_yes F14 rfl (e := 15) rfl (by omega) (show _ = Value.bool true from by simp [upd, e0, e1])) (v := Value.pointer (some ⟨rb, 1, none⟩)) (fun wr hwr => by simp only [execOp, (F14.eval 18 (by omega)).trans (show _ = Value.pointer (some ⟨rb, 0, none⟩) from by simp [upd, e0, e1])]; simp [go_sem]) fun F15 => ?_
    refine lyp F15 rfl HCC rfl (by omega) (want_yes F15 rfl (e := 15) rfl (by omega) (show _ = Value.bool true from by simp [upd, e0, e1])) (v := Value.int .i64 a.rep) (fun wr hwr => by simp only [execOp, (F15.eval 19 (by omega)).trans (show _ = Value.pointer (some ⟨rb, 1, none⟩) from by simp [upd, e0, e1])]; simp [go_sem, hwr.2.1]) fun F16 => ?_
    refine lyp F16 rfl HCC rfl (by omega) (want_yes F16 rfl (e := 15) rfl (by omega) (show _ = Value.bool true from by simp [upd, e0, e1])) (v := Value.int .i64 (Int.tmod s a.rep)) (fun wr hwr => by simp only [execOp, (F16.eval 16 (by omega)).trans (show _ = Value.int .i64 s from by simp [upd, e0, e1]), (F16.eval 20 (by omega)).trans (show _ = Value.int .i64 a.rep from by simp [upd, e0, e1])]; simp [go_sem, Act.eval, hrn]) fun F17 => ?_
    refine lyp F17 rfl HCC rfl (by omega) (want_yes F17 rfl (e := 15) rfl (by omega) (show _ = Value.bool true from by simp [upd, e0, e1])) (v := Value.pointer (some ⟨rb, 0, none⟩)) (fun wr hwr => by simp only [execOp, (F17.eval 0 (by omega)).trans (show _ = Value.pointer (some ⟨rb, 0, none⟩) from by simp [upd, e0, e1])]; first | rfl | simp [go_sem]) fun F18 => ?_
    refine lyp F18 rfl HCC rfl (by omega) (want_yes F18 rfl (e := 15) rfl (by omega) (show _ = Value.bool true from by simp [upd, e0, e1])) (v := Value.pointer (some ⟨rb, 0, none⟩)) (fun wr hwr => by simp only [execOp, (F18.eval 22 (by omega)).trans (show _ = Value.pointer (some ⟨rb, 0, none⟩) from by simp [upd, e0, e1])]; simp [go_sem]) fun F19 => ?_
    refine lyp F19 rfl HCC rfl (by omega) (want_yes F19 rfl (e := 15) rfl (by omega) (show _ = Value.bool true from by simp [upd, e0, e1])) (v := Value.pointer (some ⟨rb, 0, none⟩)) (fun wr hwr => by simp only [execOp, (F19.eval 23 (by omega)).trans (show _ = Value.pointer (some ⟨rb, 0, none⟩) from by simp [upd, e0, e1])]; simp [go_sem]) fun F20 => ?_
    refine lyp F20 rfl HCC rfl (by omega) (want_yes F20 rfl (e := 15) rfl (by omega) (show _ = Value.bool true from by simp [upd, e0, e1])) (v := Value.int .i64 a.me) (fun wr hwr => by simp only [execOp, (F20.eval 24 (by omega)).trans (show _ = Value.pointer (some ⟨rb, 0, none⟩) from by simp [upd, e0, e1])]; simp [go_sem, hwr.1]) fun F21 => ?_
    refine lyp F21 rfl HCC rfl (by omega) (want_yes F21 rfl (e := 15) rfl (by omega) (show _ = Value.bool true from by simp [upd, e0, e1])) (v := Value.bool false) (fun wr hwr => by simp only [execOp, (F21.eval 21 (by omega)).trans (show _ = Value.int .i64 (Int.tmod s a.rep) from by simp [upd, e0, e1]), (F21.eval 25 (by omega)).trans (show _ = Value.int .i64 a.me from by simp [upd, e0, e1])]; simp [go_sem, Act.eval, hk]) fun F22 => ?_
    refine lyp F22 rfl HCC rfl (by omega) (wanted_none rfl) (v := Value.bool false) (fun wr hwr => by simp only [execOp, (F22.eval 15 (by omega)).trans (show _ = Value.bool true from by simp [upd, e0, e1]), (F22.eval 26 (by omega)).trans (show _ = Value.bool false from by simp [upd, e0, e1])]; simp [go_sem, Act.eval]) fun F23 => ?_
    refine lyp F23 rfl HCC rfl (by omega) (wanted_none rfl) (v := Value.bool false) (fun wr hwr => by simp only [execOp, (F23.eval 27 (by omega)).trans (show _ = Value.bool false from by simp [upd, e0, e1])]; first | rfl | simp [go_sem]) fun F24 => ?_
    refine ⟨fun _ => HCC, ?_⟩
    refine hK _ _ ?_
    clear F0 F1 F2 F3 F4 F5 F6 F7 F8 F9 F10 F11 F12 F13 F14 F15 F16 F17 F18 F19 F20 F21 F22 F23 F24 e0 e1 HCC
    simp only [Act.put, List.setIfInBounds_toArray, List.set_cons_succ, List.set_cons_zero]
    go_wp2_with fail
    go_ret
    exact ⟨rfl, 1, rfl⟩

theorem idx44 (w : World) (g o j : Nat) (hj : j < 64) : (Instr.indexAt 44 (.pointer (some ⟨g, o, none⟩)) (.int .i64 (j : Int))).run Try.prog w = .ok (.pointer (some ⟨g, o + j, none⟩)) w := by
  simp [go_sem, hj]
  try (intro hh; omega)
def rlastA (a : CA) (la : Int → Int) (s : Int) : Int := if mine a.me a.rep a.ses s then la s else 0
set_option maxRecDepth 100000 in
set_option maxHeartbeats 3200000 in
theorem rlast_any {a : CA} {B rb : Nat} {r : RS} (s : Int) (w : World) (h : RC a B rb r w) (hok : COk a) :
    Calls Try.prog 30 #[.pointer (some ⟨rb, 0, none⟩), .int .i64 s] w fun e w' => e = .returned (.int .i64 (rlastA a r.la s)) ∧ ∃ q, w' = w.drewN q := by
  have HM : Hid _ := mine_any s w h hok
  by_cases hmi : mine a.me a.rep a.ses s
  · rw [show rlastA a r.la s = r.la s from if_pos hmi]
    rw [show decide (mine a.me a.rep a.ses s) = true from by simpa using hmi] at HM
    obtain ⟨k, rfl⟩ : ∃ k : Nat, s = k := ⟨s.toNat, by have := hmi.1; omega⟩
    have hk : k < 64 := by have := hmi.2.1; have := hok.ses; omega
    have l0 := h.lac k hk
    have l1 : ∀ q, (w.drewN q).cell? ⟨rb, 4 + k, none⟩ = some (.int .i64 (r.la k)) := fun q => l0
    clear h hok hmi l0
    go_enter Try.func30, Try.ntmps30
    go_wp2_with fail
    refine Calls.mono HM.out ?_
    rintro e w1 ⟨rfl, q, rfl⟩
    go_wp2_with fail
    go_ret
    exact ⟨rfl, q, rfl⟩
  · rw [show rlastA a r.la s = 0 from if_neg hmi]
    rw [show decide (mine a.me a.rep a.ses s) = false from by simpa using hmi] at HM
    clear h hok hmi
    go_enter Try.func30, Try.ntmps30
    go_wp2_with fail
    refine Calls.mono HM.out ?_
    rintro e w1 ⟨rfl, q, rfl⟩
    go_wp2_with fail
    go_ret
    exact ⟨rfl, q, rfl⟩
theorem cellC {w : World} {L n cap g i : Nat} {cs : List (Int × Int)} (h : w.ownsRow L 32 2 (.slice (some ⟨g, 0, none⟩) n cap) n (flatC cs)) {c : Int × Int} (hc : cs[i]? = some c) : w.cell? ⟨g, i * 2, none⟩ = some (.int .i64 c.1) ∧ w.cell? ⟨g, i * 2 + 1, none⟩ = some (.int .i64 c.2) := by
  have key : ∀ t u, t < 2 → ([Value.int .i64 c.1, .int .i64 c.2] : List Value)[t]? = some u → w.cell? ⟨g, i * 2 + t, none⟩ = some u := fun t u ht hu => by
    have := h.cells (g := g) rfl (i * 2 + t) u (by rw [flatC_get cs i t c hc ht]; exact hu)
    rwa [addr_add, Nat.zero_add] at this
  exact ⟨key 0 _ (by omega) rfl, key 1 _ (by omega) rfl⟩
/-- The place of a call in a list. -/
def idxOf (c : Int × Int) (op : List (Int × Int)) : Int := if c ∈ op then ((op.idxOf c : Nat) : Int) else -1
theorem idxOf_at {c : Int × Int} {op : List (Int × Int)} {k : Nat} (hk : op[k]? = some c) (hn : ∀ j x, j < k → op[j]? = some x → x ≠ c) : idxOf c op = k ∧ op.idxOf c = k := by
  have hkl := (List.getElem?_eq_some_iff.1 hk).1
  have hm : c ∈ op := List.mem_of_getElem? hk
  have : op.idxOf c = k := by
    induction op generalizing k with
    | nil => simp at hk
    | cons a t ih =>
      cases k with
      | zero =>
        simp at hk
        subst hk
        simp
      | succ k =>
        have h0 := hn 0 a (by omega) rfl
        rw [List.idxOf_cons]
        have e2 : (a == c) = false := by simpa using h0
        rw [e2]
        simp only [cond_false]
        have hm2 : t[k]? = some c := by simpa using hk
        rw [ih hm2 (fun j x hj hx => hn (j + 1) x (by omega) (by simpa using hx)) (by simpa using hkl) (List.mem_of_getElem? hm2)]
  unfold idxOf
  rw [if_pos hm, this]
  exact ⟨rfl, rfl⟩
theorem idxOf_no {c : Int × Int} {op : List (Int × Int)} (hn : ∀ j x, j < op.length → op[j]? = some x → x ≠ c) : idxOf c op = -1 := by
  unfold idxOf
  rw [if_neg]
  intro hm
  obtain ⟨j, hj, e⟩ := List.getElem_of_mem hm
  exact hn j c hj (by rw [List.getElem?_eq_getElem hj, e]) rfl
set_option maxRecDepth 100000 in
set_option maxHeartbeats 3200000 in
theorem rpend_any {a : CA} {B rb : Nat} {r : RS} (c : Int × Int) (w : World) (h : RC a B rb r w) (hl : r.op.length ≤ 100000) :
    Calls Try.prog 37 #[.pointer (some ⟨rb, 0, none⟩), callV c] w fun e w' => e = .returned (.int .i64 (idxOf c r.op)) ∧ Below w.heap.size w w' := by
  obtain ⟨cs, ci⟩ := c
  unfold callV
  simp only
  obtain ⟨res, hres⟩ : ∃ res, res = idxOf (cs, ci) r.op := ⟨_, rfl⟩
  rw [← hres]
  have HRES : Hid _ := hres
  obtain ⟨X, hX⟩ : ∃ X, X = w.alloc (.cells #[.int .i64 cs, .int .i64 ci] 32) := ⟨_, rfl⟩
  have hbX : Below w.heap.size w X := by rw [hX]; exact (Below.refl _ _).alloc (Nat.le_refl _) _
  obtain ⟨cb, hcb⟩ : ∃ cb, cb = w.heap.size := ⟨_, rfl⟩
  have hCB : Blk X cb #[.int .i64 cs, .int .i64 ci] 32 := by rw [hX, hcb]; exact heap_alloc_new w _
  have hR := h.more hbX
  obtain ⟨ao, cap, hvo, hcap, _, hrd⟩ := own_read hR.ro
  have c68 := hR.cell.2.2.2.2.1
  rw [hvo] at c68
  have HR : Hid (RC a B rb r X) := hR
  have HRD : Hid (0 < r.op.length → ∃ g, ao = some ⟨g, 0, none⟩) := fun hh => by
    obtain ⟨g, e, _⟩ := hrd hh
    exact ⟨g, e⟩
  have HVO : Hid (r.vo = .slice ao r.op.length cap) := hvo
  have HBX : Hid (Below w.heap.size w X) := hbX
  have d68 : ∀ q, (X.drewN q).cell? ⟨rb, 68, none⟩ = some (.slice ao r.op.length cap) := fun q => c68
  have b0 : ∀ q, (X.drewN q).cell? ⟨cb, 0, none⟩ = some (.int .i64 cs) := fun q => hCB.cell 0
  have b1 : ∀ q, (X.drewN q).cell? ⟨cb, 1, none⟩ = some (.int .i64 ci) := fun q => hCB.cell 1
  clear h hres hbX hCB hR hvo hrd c68
  go_enter Try.func37, Try.ntmps37
  go_wp2_with fail
  rw [← hX, ← hcb]
  clear hX hcb
  go_loopw [5] (fun i wr => ∃ k q : Nat, k ≤ r.op.length ∧ i = .int .i64 k ∧ wr = X.drewN q ∧ ∀ j y, j < k → r.op[j]? = some y → y ≠ (cs, ci)) (fun i _ => r.op.length - (intOf i).toNat)
  case atStart => exact ⟨0, 0, Nat.zero_le _, rfl, rfl, fun j y hj => by omega⟩
  case round =>
    obtain ⟨k, q, hk, rfl, rfl, hne⟩ := hrel
    by_cases hlt : k < r.op.length
    · obtain ⟨y, hy⟩ : ∃ y, r.op[k]? = some y := ⟨r.op[k], List.getElem?_eq_getElem hlt⟩
      obtain ⟨g, rfl⟩ := HRD.out (by omega)
      have hro := HR.out.ro
      rw [HVO.out] at hro
      obtain ⟨p0', p1'⟩ := cellC hro hy
      have p0 : ∀ q, (X.drewN q).cell? ⟨g, k * 2, none⟩ = some (.int .i64 y.1) := fun q => p0'
      have p1 : ∀ q, (X.drewN q).cell? ⟨g, k * 2 + 1, none⟩ = some (.int .i64 y.2) := fun q => p1'
      clear hro p0' p1'
      by_cases hyc : y = (cs, ci)
      · have HI : Hid _ := (idxOf_at (hyc ▸ hy) hne).1
        have HY1 : Hid (y.1 = cs) := show y.1 = cs from by rw [hyc]
        have HY2 : Hid (y.2 = ci) := show y.2 = ci from by rw [hyc]
        clear hne hyc hy
        go_wp2_with fail
        rename_i K hK
        try rw [show ∀ a : Act, a.put none undef = a from fun _ => rfl]
        refine wp_region_mix (fun wq => ∃ q : Nat, wq = X.drewN q) (fun i => i == 99) 99 (by kernel_rfl) rfl (by kernel_rfl) (by kernel_rfl) (by kernel_rfl) ?_
        refine withFrP (N := 25) rfl ?_
        intro f0 F0 hff
        have e0 : f0 0 = Value.pointer (some ⟨rb, 0, none⟩) := hff 0
        have e3 : f0 3 = Value.pointer (some ⟨cb, 0, none⟩) := hff 3
        have e5 : f0 5 = Value.int .i64 (k : Nat) := hff 5
        clear hff
        have HCC : (fun wq => ∃ q : Nat, wq = X.drewN q) (({ (X.drewN q) with drawn := (X.drewN q).drawn + 1 } : World)) := ⟨q + 1, rfl⟩
        refine lyp F0 rfl HCC rfl (by omega) (wanted_none rfl) (v := Value.pointer (some ⟨rb, 0, none⟩)) (fun wr hwr => by simp only [execOp, (F0.eval 0 (by omega)).trans (show _ = Value.pointer (some ⟨rb, 0, none⟩) from by simp [upd, e0, e3, e5])]; first | rfl | simp [go_sem]) fun F1 => ?_
        refine lyp F1 rfl HCC rfl (by omega) (wanted_none rfl) (v := Value.pointer (some ⟨rb, 0, none⟩)) (fun wr hwr => by simp only [execOp, (F1.eval 15 (by omega)).trans (show _ = Value.pointer (some ⟨rb, 0, none⟩) from by simp [upd, e0, e3, e5])]; simp [go_sem]) fun F2 => ?_
        refine lyp F2 rfl HCC rfl (by omega) (wanted_none rfl) (v := Value.pointer (some ⟨rb, 68, none⟩)) (fun wr hwr => by simp only [execOp, (F2.eval 16 (by omega)).trans (show _ = Value.pointer (some ⟨rb, 0, none⟩) from by simp [upd, e0, e3, e5])]; simp [go_sem]) fun F3 => ?_
        refine lyp F3 rfl HCC rfl (by omega) (wanted_none rfl) (v := Value.slice (some ⟨g, 0, none⟩) r.op.length cap) (fun wr hwr => by obtain ⟨q, rfl⟩ := hwr; simp only [execOp, (F3.eval 17 (by omega)).trans (show _ = Value.pointer (some ⟨rb, 68, none⟩) from by simp [upd, e0, e3, e5])]; simp [go_sem, d68]) fun F4 => ?_
        refine lyp F4 rfl HCC rfl (by omega) (wanted_none rfl) (v := Value.int .i64 (k : Nat)) (fun wr hwr => by simp only [execOp, (F4.eval 5 (by omega)).trans (show _ = Value.int .i64 (k : Nat) from by simp [upd, e0, e3, e5])]; first | rfl | simp [go_sem]) fun F5 => ?_
        refine lyp F5 rfl HCC rfl (by omega) (wanted_none rfl) (v := Value.pointer (some ⟨g, k * 2, none⟩)) (fun wr hwr => by simp only [execOp, (F5.eval 18 (by omega)).trans (show _ = Value.slice (some ⟨g, 0, none⟩) r.op.length cap from by simp [upd, e0, e3, e5]), (F5.eval 19 (by omega)).trans (show _ = Value.int .i64 (k : Nat) from by simp [upd, e0, e3, e5])]; simp only [Sem.run_bind, Sem.run_pure, Result.andThen_ok, idx_run 79 32 2 Try.underlying79 rfl wr g 0 r.op.length cap k hlt, Nat.zero_add]; try rfl) fun F6 => ?_
        refine lyp F6 rfl HCC rfl (by omega) (wanted_none rfl) (v := Value.agg #[.int .i64 y.1, .int .i64 y.2]) (fun wr hwr => by obtain ⟨q, rfl⟩ := hwr; simp only [execOp, (F6.eval 20 (by omega)).trans (show _ = Value.pointer (some ⟨g, k * 2, none⟩) from by simp [upd, e0, e3, e5])]; simp [go_sem, p0, p1]) fun F7 => ?_
        refine lyp F7 rfl HCC rfl (by omega) (wanted_none rfl) (v := Value.agg #[.int .i64 cs, .int .i64 ci]) (fun wr hwr => by obtain ⟨q, rfl⟩ := hwr; simp only [execOp, (F7.eval 3 (by omega)).trans (show _ = Value.pointer (some ⟨cb, 0, none⟩) from by simp [upd, e0, e3, e5])]; simp [go_sem, b0, b1]) fun F8 => ?_
        refine lyp F8 rfl HCC rfl (by omega) (wanted_none rfl) (v := Value.bool true) (fun wr hwr => by simp only [execOp, (F8.eval 21 (by omega)).trans (show _ = Value.agg #[.int .i64 y.1, .int .i64 y.2] from by simp [upd, e0, e3, e5]), (F8.eval 22 (by omega)).trans (show _ = Value.agg #[.int .i64 cs, .int .i64 ci] from by simp [upd, e0, e3, e5])]; simp [go_sem, Act.eval, HY1.out, HY2.out]) fun F9 => ?_
        refine ⟨fun _ => HCC, ?_⟩
        refine hK _ _ ?_
        clear F0 F1 F2 F3 F4 F5 F6 F7 F8 F9 e0 e3 e5 HCC
        simp only [Act.put, List.setIfInBounds_toArray, List.set_cons_succ, List.set_cons_zero]
        obtain ⟨nq, hnq⟩ : ∃ nq, nq = q + 1 := ⟨_, rfl⟩
        rw [show ({ X.drewN q with drawn := (X.drewN q).drawn + 1 } : World) = X.drewN nq from by rw [hnq]; rfl]
        clear hnq
        go_wp2_with fail
        go_ret
        exact ⟨by rw [HRES.out, HI.out]; rfl, below_drewN HBX.out _⟩
      · have HNE : Hid (∀ j z, j < k + 1 → r.op[j]? = some z → z ≠ (cs, ci)) := fun j z hj hz => by
          by_cases e : j = k
          · subst e
            rw [hy] at hz
            cases hz
            exact hyc
          · exact hne j z (by omega) hz
        have HYC : Hid (y ≠ (cs, ci)) := hyc
        clear hne hyc hy
        go_wp2_with fail
        rename_i K hK
        try rw [show ∀ a : Act, a.put none undef = a from fun _ => rfl]
        refine wp_region_mix (fun wq => ∃ q : Nat, wq = X.drewN q) (fun i => i == 99) 99 (by kernel_rfl) rfl (by kernel_rfl) (by kernel_rfl) (by kernel_rfl) ?_
        refine withFrP (N := 25) rfl ?_
        intro f0 F0 hff
        have e0 : f0 0 = Value.pointer (some ⟨rb, 0, none⟩) := hff 0
        have e3 : f0 3 = Value.pointer (some ⟨cb, 0, none⟩) := hff 3
        have e5 : f0 5 = Value.int .i64 (k : Nat) := hff 5
        clear hff
        have HCC : (fun wq => ∃ q : Nat, wq = X.drewN q) (({ (X.drewN q) with drawn := (X.drewN q).drawn + 1 } : World)) := ⟨q + 1, rfl⟩
        refine lyp F0 rfl HCC rfl (by omega) (wanted_none rfl) (v := Value.pointer (some ⟨rb, 0, none⟩)) (fun wr hwr => by simp only [execOp, (F0.eval 0 (by omega)).trans (show _ = Value.pointer (some ⟨rb, 0, none⟩) from by simp [upd, e0, e3, e5])]; first | rfl | simp [go_sem]) fun F1 => ?_
        refine lyp F1 rfl HCC rfl (by omega) (wanted_none rfl) (v := Value.pointer (some ⟨rb, 0, none⟩)) (fun wr hwr => by simp only [execOp, (F1.eval 15 (by omega)).trans (show _ = Value.pointer (some ⟨rb, 0, none⟩) from by simp [upd, e0, e3, e5])]; simp [go_sem]) fun F2 => ?_
        refine lyp F2 rfl HCC rfl (by omega) (wanted_none rfl) (v := Value.pointer (some ⟨rb, 68, none⟩)) (fun wr hwr => by simp only [execOp, (F2.eval 16 (by omega)).trans (show _ = Value.pointer (some ⟨rb, 0, none⟩) from by simp [upd, e0, e3, e5])]; simp [go_sem]) fun F3 => ?_
        refine lyp F3 rfl HCC rfl (by omega) (wanted_none rfl) (v := Value.slice (some ⟨g, 0, none⟩) r.op.length cap) (fun wr hwr => by obtain ⟨q, rfl⟩ := hwr; simp only [execOp, (F3.eval 17 (by omega)).trans (show _ = Value.pointer (some ⟨rb, 68, none⟩) from by simp [upd, e0, e3, e5])]; simp [go_sem, d68]) fun F4 => ?_
        refine lyp F4 rfl HCC rfl (by omega) (wanted_none rfl) (v := Value.int .i64 (k : Nat)) (fun wr hwr => by simp only [execOp, (F4.eval 5 (by omega)).trans (show _ = Value.int .i64 (k : Nat) from by simp [upd, e0, e3, e5])]; first | rfl | simp [go_sem]) fun F5 => ?_
        refine lyp F5 rfl HCC rfl (by omega) (wanted_none rfl) (v := Value.pointer (some ⟨g, k * 2, none⟩)) (fun wr hwr => by simp only [execOp, (F5.eval 18 (by omega)).trans (show _ = Value.slice (some ⟨g, 0, none⟩) r.op.length cap from by simp [upd, e0, e3, e5]), (F5.eval 19 (by omega)).trans (show _ = Value.int .i64 (k : Nat) from by simp [upd, e0, e3, e5])]; simp only [Sem.run_bind, Sem.run_pure, Result.andThen_ok, idx_run 79 32 2 Try.underlying79 rfl wr g 0 r.op.length cap k hlt, Nat.zero_add]; try rfl) fun F6 => ?_
        refine lyp F6 rfl HCC rfl (by omega) (wanted_none rfl) (v := Value.agg #[.int .i64 y.1, .int .i64 y.2]) (fun wr hwr => by obtain ⟨q, rfl⟩ := hwr; simp only [execOp, (F6.eval 20 (by omega)).trans (show _ = Value.pointer (some ⟨g, k * 2, none⟩) from by simp [upd, e0, e3, e5])]; simp [go_sem, p0, p1]) fun F7 => ?_
        refine lyp F7 rfl HCC rfl (by omega) (wanted_none rfl) (v := Value.agg #[.int .i64 cs, .int .i64 ci]) (fun wr hwr => by obtain ⟨q, rfl⟩ := hwr; simp only [execOp, (F7.eval 3 (by omega)).trans (show _ = Value.pointer (some ⟨cb, 0, none⟩) from by simp [upd, e0, e3, e5])]; simp [go_sem, b0, b1]) fun F8 => ?_
        refine lyp F8 rfl HCC rfl (by omega) (wanted_none rfl) (v := Value.bool false) (fun wr hwr => by simp only [execOp, (F8.eval 21 (by omega)).trans (show _ = Value.agg #[.int .i64 y.1, .int .i64 y.2] from by simp [upd, e0, e3, e5]), (F8.eval 22 (by omega)).trans (show _ = Value.agg #[.int .i64 cs, .int .i64 ci] from by simp [upd, e0, e3, e5])]; simp [go_sem, Act.eval]; intro e1 e2; exact HYC.out (Prod.ext e1 e2)) fun F9 => ?_
        refine ⟨fun _ => HCC, ?_⟩
        refine hK _ _ ?_
        clear F0 F1 F2 F3 F4 F5 F6 F7 F8 F9 e0 e3 e5 HCC
        simp only [Act.put, List.setIfInBounds_toArray, List.set_cons_succ, List.set_cons_zero]
        obtain ⟨nq, hnq⟩ : ∃ nq, nq = q + 1 := ⟨_, rfl⟩
        rw [show ({ X.drewN q with drawn := (X.drewN q).drawn + 1 } : World) = X.drewN nq from by rw [hnq]; rfl]
        clear hnq
        go_wp2_with fail
        go_roundw
        case rel => exact ⟨k + 1, _, by omega, by go_num, rfl, HNE.out⟩
        case measure => simp [intOf]; omega
    · have hke : k = r.op.length := by omega
      subst hke
      have HI : Hid _ := idxOf_no hne
      clear hne
      go_wp2_with fail
      go_ret
      exact ⟨by rw [HRES.out, HI.out]; rfl, below_drewN HBX.out _⟩
end Go.Proofs.Ytadfmnlkfcigoaa
