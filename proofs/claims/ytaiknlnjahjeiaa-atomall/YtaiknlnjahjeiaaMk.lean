import Derived.Test.YtaiknlnjahjeiaaNm0
import Derived.Deep.Cut
import Derived.BigQuiet
import Derived.Lib.ConvBytes
namespace Go.Proofs.Ytaiknlnjahjeiaa
open Go.RowKit Go.PlainAid Go.MapKept
set_option linter.unusedVariables false
set_option linter.unusedSimpArgs false
def mkS (i : Nat) : List UInt8 := [32, UInt8.ofNat i, UInt8.ofNat (i / 256)]
set_option maxRecDepth 100000 in
set_option maxHeartbeats 1600000 in
theorem mark_any (i : Nat) (w : World) (hi : i ≤ 100000) : Calls Try.prog 42 #[.int .i64 (i : Nat)] w fun e w' => e = .returned (.string ⟨(mkS i).toArray⟩) ∧ Below w.heap.size w w' := by
  obtain ⟨X, hX⟩ : ∃ X, X = w.alloc (.cells #[.int .u8 32, .int .u8 ((i : Int) % 256), .int .u8 ((i : Int) / 256 % 256)] 5) := ⟨_, rfl⟩
  have hB : Blk X w.heap.size #[.int .u8 32, .int .u8 ((i : Int) % 256), .int .u8 ((i : Int) / 256 % 256)] 5 := by rw [hX]; exact heap_alloc_new w _
  have hcv : (convert 119 9 (.slice (some ⟨w.heap.size, 0, none⟩) 3 3)).run Try.prog X = .ok (.string ⟨(mkS i).toArray⟩) X := by
    refine run_convert_bytes_back X 119 9 5 ⟨w.heap.size, 0, none⟩ 3 (mkS i) Try.underlying119 Try.underlying5 Try.underlying9 (fun j hj => ?_)
    rw [addr_add, Nat.zero_add, hB.cell j]
    have hj3 : j < 3 := hj
    match j, hj3 with
    | 0, _ => rfl
    | 1, _ =>
      show some (Value.int .u8 ((i : Int) % 256)) = some (.int .u8 ((UInt8.ofNat i).toNat : Int))
      simp
    | 2, _ =>
      show some (Value.int .u8 ((i : Int) / 256 % 256)) = some (.int .u8 ((UInt8.ofNat (i / 256)).toNat : Int))
      simp
  have HB : Hid (Below w.heap.size w X) := show Below w.heap.size w X from by rw [hX]; exact (Below.refl _ _).alloc (Nat.le_refl _) _
  have HX : Hid (X = w.alloc (.cells #[.int .u8 32, .int .u8 ((i : Int) % 256), .int .u8 ((i : Int) / 256 % 256)] 5)) := hX
  clear hB hX
  go_enter Try.func42, Try.ntmps42
  go_wp2_with fail
  rw [← HX.out, hcv]
  simp only [Result.andThen]
  rw [Oper.upon_value]
  go_wp2_with fail
  go_ret
  exact ⟨rfl, HB.out⟩
set_option maxRecDepth 100000 in
set_option maxHeartbeats 1600000 in
theorem alike_yes {B1 B2 M : Nat} (v1 v2 : Value) (ks : List (List UInt8)) (hM : M = ks.length) (w : World) (h1 : w.ownsRow B1 9 1 v1 M (flatS ks)) (h2 : w.ownsRow B2 9 1 v2 M (flatS ks)) (h3 : M ≤ 100000) :
    Calls Try.prog 41 #[v1, v2] w fun e w' => e = .returned (.bool true) ∧ Below w.heap.size w w' := by
  obtain ⟨o1, c1, e1, _⟩ := own_slice h1
  obtain ⟨o2, c2, e2, _⟩ := own_slice h2
  subst e1
  subst e2
  have H1 : Hid (w.ownsRow B1 9 1 (.slice o1 M c1) M (flatS ks)) := h1
  have H2 : Hid (w.ownsRow B2 9 1 (.slice o2 M c2) M (flatS ks)) := h2
  have HM : Hid (M = ks.length) := hM
  clear h1 h2 hM
  have q0 : ((M : Int) == (M : Int)) = true := by simp
  go_enter Try.func41, Try.ntmps41
  go_wp2_with fail
  go_loopw [5] (fun s5 wr => ∃ q : Nat, q ≤ M ∧ s5 = .int .i64 q ∧ Below w.heap.size w wr) (fun s5 _ => M - (intOf s5).toNat)
  case atStart => exact ⟨0, Nat.zero_le _, rfl, Below.refl _ _⟩
  case round =>
    obtain ⟨q, hqM, rfl, hbw⟩ := hrel
    have HBW : Hid (Below w.heap.size w wr) := hbw
    clear hbw
    by_cases hlt : q < M
    · obtain ⟨nm, hnm⟩ : ∃ nm, ks[q]? = some nm := ⟨_, List.getElem?_eq_getElem (by rw [← HM.out]; exact hlt)⟩
      obtain ⟨g1, gc1, hg1, _, _, hgl1, hc1⟩ := own_at' H1.out (by omega)
      obtain ⟨g2, gc2, hg2, _, _, hgl2, hc2⟩ := own_at' H2.out (by omega)
      cases hg1
      cases hg2
      have k0 : wr.cell? ⟨g1, q, none⟩ = some (.string ⟨nm.toArray⟩) := (HBW.out.cell (p := ⟨g1, q, none⟩) hgl1).trans (hc1 q _ (flatS_at hnm))
      have k1 : wr.cell? ⟨g2, q, none⟩ = some (.string ⟨nm.toArray⟩) := (HBW.out.cell (p := ⟨g2, q, none⟩) hgl2).trans (hc2 q _ (flatS_at hnm))
      have HBN : Hid (Below w.heap.size w ({ wr with drawn := wr.drawn + 1 } : World)) := Below.drew HBW.out
      clear hgl1 hgl2 hc1 hc2 hnm
      go_wp2_with fail
      first | rename_i KK hKK | skip
      try rw [show ∀ a : Act, a.put none undef = a from fun _ => rfl]
      refine wp_region_mix (fun wq => wq.cell? ⟨g1, q, none⟩ = some (.string ⟨nm.toArray⟩) ∧ wq.cell? ⟨g2, q, none⟩ = some (.string ⟨nm.toArray⟩)) (fun i => i == 99) 99 (by kernel_rfl) rfl (by kernel_rfl) (by kernel_rfl) (by kernel_rfl) ?_
      refine withFrP (N := 26) rfl ?_
      intro f0 F0 hff
      have ee0 : f0 0 = Value.slice (some ⟨g1, 0, none⟩) M c1 := hff 0
      have ee1 : f0 1 = Value.slice (some ⟨g2, 0, none⟩) M c2 := hff 1
      have ee5 : f0 5 = Value.int .i64 (q : Nat) := hff 5
      clear hff
      have HCC : (fun wq => wq.cell? ⟨g1, q, none⟩ = some (.string ⟨nm.toArray⟩) ∧ wq.cell? ⟨g2, q, none⟩ = some (.string ⟨nm.toArray⟩)) (({ wr with drawn := wr.drawn + 1 } : World)) := ⟨k0, k1⟩
      refine lyp F0 rfl HCC rfl (by omega) (wanted_none rfl) (v := Value.slice (some ⟨g1, 0, none⟩) M c1) (fun wr hwr => by simp only [execOp, (F0.eval 0 (by omega)).trans (show _ = Value.slice (some ⟨g1, 0, none⟩) M c1 from by simp [upd, ee0, ee1, ee5])]; first | rfl | simp [go_sem]) fun F1 => ?_
      refine lyp F1 rfl HCC rfl (by omega) (wanted_none rfl) (v := Value.int .i64 (q : Nat)) (fun wr hwr => by simp only [execOp, (F1.eval 5 (by omega)).trans (show _ = Value.int .i64 (q : Nat) from by simp [upd, ee0, ee1, ee5])]; first | rfl | simp [go_sem]) fun F2 => ?_
      refine lyp F2 rfl HCC rfl (by omega) (wanted_none rfl) (v := Value.pointer (some ⟨g1, q, none⟩)) (fun wr hwr => by simp only [execOp, (F2.eval 17 (by omega)).trans (show _ = Value.slice (some ⟨g1, 0, none⟩) M c1 from by simp [upd, ee0, ee1, ee5]), (F2.eval 18 (by omega)).trans (show _ = Value.int .i64 (q : Nat) from by simp [upd, ee0, ee1, ee5])]; simp only [Sem.run_bind, Sem.run_pure, Result.andThen_ok, idx_run 39 9 1 Try.underlying39 (by kernel_rfl) wr g1 0 M c1 q (by omega), Nat.zero_add, Nat.mul_one]; try rfl) fun F3 => ?_
      refine lyp F3 rfl HCC rfl (by omega) (wanted_none rfl) (v := Value.string ⟨nm.toArray⟩) (fun wr hwr => by simp only [execOp, (F3.eval 19 (by omega)).trans (show _ = Value.pointer (some ⟨g1, q, none⟩) from by simp [upd, ee0, ee1, ee5])]; simp [go_sem, hwr.1]) fun F4 => ?_
      refine lyp F4 rfl HCC rfl (by omega) (wanted_none rfl) (v := Value.slice (some ⟨g2, 0, none⟩) M c2) (fun wr hwr => by simp only [execOp, (F4.eval 1 (by omega)).trans (show _ = Value.slice (some ⟨g2, 0, none⟩) M c2 from by simp [upd, ee0, ee1, ee5])]; first | rfl | simp [go_sem]) fun F5 => ?_
      refine lyp F5 rfl HCC rfl (by omega) (wanted_none rfl) (v := Value.int .i64 (q : Nat)) (fun wr hwr => by simp only [execOp, (F5.eval 5 (by omega)).trans (show _ = Value.int .i64 (q : Nat) from by simp [upd, ee0, ee1, ee5])]; first | rfl | simp [go_sem]) fun F6 => ?_
      refine lyp F6 rfl HCC rfl (by omega) (wanted_none rfl) (v := Value.pointer (some ⟨g2, q, none⟩)) (fun wr hwr => by simp only [execOp, (F6.eval 21 (by omega)).trans (show _ = Value.slice (some ⟨g2, 0, none⟩) M c2 from by simp [upd, ee0, ee1, ee5]), (F6.eval 22 (by omega)).trans (show _ = Value.int .i64 (q : Nat) from by simp [upd, ee0, ee1, ee5])]; simp only [Sem.run_bind, Sem.run_pure, Result.andThen_ok, idx_run 39 9 1 Try.underlying39 (by kernel_rfl) wr g2 0 M c2 q (by omega), Nat.zero_add, Nat.mul_one]; try rfl) fun F7 => ?_
      refine lyp F7 rfl HCC rfl (by omega) (wanted_none rfl) (v := Value.string ⟨nm.toArray⟩) (fun wr hwr => by simp only [execOp, (F7.eval 23 (by omega)).trans (show _ = Value.pointer (some ⟨g2, q, none⟩) from by simp [upd, ee0, ee1, ee5])]; simp [go_sem, hwr.2]) fun F8 => ?_
      refine lyp F8 rfl HCC rfl (by omega) (wanted_none rfl) (v := Value.bool false) (fun wr hwr => by simp only [execOp, (F8.eval 20 (by omega)).trans (show _ = Value.string ⟨nm.toArray⟩ from by simp [upd, ee0, ee1, ee5]), (F8.eval 24 (by omega)).trans (show _ = Value.string ⟨nm.toArray⟩ from by simp [upd, ee0, ee1, ee5])]; simp [go_sem, Act.eval]) fun F9 => ?_
      refine ⟨fun _ => HCC, ?_⟩
      first | refine hKK _ _ ?_ | skip
      clear F0 F1 F2 F3 F4 F5 F6 F7 F8 F9 ee0 ee1 ee5 HCC
      simp only [Act.put, List.setIfInBounds_toArray, List.set_cons_succ, List.set_cons_zero]
      clear k0 k1
      go_wp2_with fail
      go_roundw
      case rel => exact ⟨q + 1, by omega, by go_num, HBN.out⟩
      case measure => simp [intOf]; omega
    · go_wp2_with fail
      go_ret
      exact ⟨rfl, HBW.out⟩
set_option maxRecDepth 100000 in
set_option maxHeartbeats 1600000 in
theorem marked_yes {B1 M : Nat} (v1 : Value) (m : List UInt8) (w : World) (h1 : w.ownsRow B1 9 1 v1 M (flatS (List.replicate M m))) (h3 : M ≤ 200000) :
    Calls Try.prog 43 #[v1, .string ⟨m.toArray⟩] w fun e w' => e = .returned (.bool true) ∧ w' = w := by
  obtain ⟨o1, c1, e1, _⟩ := own_slice h1
  subst e1
  have H1 : Hid (w.ownsRow B1 9 1 (.slice o1 M c1) M (flatS (List.replicate M m))) := h1
  clear h1
  go_enter Try.func43, Try.ntmps43
  go_wp2_with fail
  go_loopw [5] (fun s5 wr => ∃ q : Nat, q ≤ M ∧ s5 = .int .i64 q ∧ wr = w) (fun s5 _ => M - (intOf s5).toNat)
  case atStart => exact ⟨0, Nat.zero_le _, rfl, rfl⟩
  case round =>
    obtain ⟨q, hqM, rfl, rfl⟩ := hrel
    by_cases hlt : q < M
    · obtain ⟨g1, gc1, hg1, _, _, hgl1, hc1⟩ := own_at' H1.out (by omega)
      cases hg1
      have k0 : wr.cell? ⟨g1, q, none⟩ = some (.string ⟨m.toArray⟩) := hc1 q _ (flatS_at (by rw [List.getElem?_replicate, if_pos hlt]))
      have q1 : (m == m) = true := by simp
      clear hgl1 hc1
      go_wp2_with fail
      go_roundw
      case rel => exact ⟨q + 1, by omega, by go_num, by first | rfl | trivial⟩
      case measure => simp [intOf]; omega
    · go_wp2_with fail
      go_ret
      exact ⟨rfl, rfl⟩
end Go.Proofs.Ytaiknlnjahjeiaa
