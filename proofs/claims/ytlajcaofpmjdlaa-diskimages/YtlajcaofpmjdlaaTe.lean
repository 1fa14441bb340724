import Derived.Test.YtlajcaofpmjdlaaAc1
import Derived.Deep.Cut
namespace Go.Proofs.Ytlajcaofpmjdlaa
open Go.RowKit Go.PlainAid
set_option linter.unusedVariables false
set_option linter.unusedSimpArgs false
section
variable {L pb p s rb : Nat} {S : SV} {lent fv lv bv : Value} {n : Nat} {x : DV} {r : RV} {R : List (Ent L)} {zs bs : List UInt8} {w w' : World}
/-- What tells answers. -/
def TelO (L pb p s rb : Nat) (fv lv lent : Value) (n : Nat) (zs : List UInt8) (x : DV) (r : RV) (R : List (Ent L)) (w : World) (e : Ending) (w' : World) : Prop := e = .returned (.bool true) ∧ ∃ (S' : SV) (n' : Nat), n' ≤ n + 1 ∧ S'.Ok n' ∧ PA L pb p s rb S' fv lv lent n' zs x r R w' ∧ Below L w w'
set_option maxRecDepth 100000 in
set_option maxHeartbeats 6400000 in
theorem tells_ison (owho oN oM : Int) (w : World) (h : PA L pb p s rb S fv lv lent n zs x r R w) (hk : S.Ok n) (hn : n ≤ 10000) (ha : AgD x r) (hx : r.log.length ≤ 1000) :
    Calls Try.prog 42 #[.pointer (some ⟨pb, 0, none⟩), .agg #[.int .i64 6, .int .i64 owho, .int .i64 oN, .int .i64 oM, bv]] w (TelO L pb p s rb fv lv lent n zs x r R w) := by
  obtain ⟨ob, hob⟩ : ∃ b, b = w.heap.size := ⟨_, rfl⟩
  obtain ⟨X, hX⟩ : ∃ X, X = w.alloc (.cells #[.int .i64 6, .int .i64 owho, .int .i64 oN, .int .i64 oM, bv] 58) := ⟨_, rfl⟩
  have hbX : Below w.heap.size w X := by rw [hX]; exact (Below.refl _ _).alloc (Nat.le_refl _) _
  have hBX : Blk X ob #[.int .i64 6, .int .i64 owho, .int .i64 oN, .int .i64 oM, bv] 58 := by rw [hX, hob]; exact heap_alloc_new w _
  have hLw : L ≤ w.heap.size := PH.low h
  have hpX : PA L pb p s rb S fv lv lent n zs x r R X := PH.more h hbX
  have HBL : Hid (Below L w X) := hbX.mono hLw
  have o0 : X.cell? ⟨ob, 0, none⟩ = some (.int .i64 6) := hBX.cell 0
  have HPX : Hid (PA L pb p s rb S fv lv lent n zs x r R X) := hpX
  have HOK : Hid (S.Ok n ∧ n ≤ 10000) := ⟨hk, hn⟩
  have HAG : Hid (AgD x r ∧ r.log.length ≤ 1000) := ⟨ha, hx⟩
  have HBX : Hid (Blk X ob #[.int .i64 6, .int .i64 owho, .int .i64 oN, .int .i64 oM, bv] 58) := hBX
  have HCX : Hid ((fun wz : World => wz.cell? ⟨pb, 0, none⟩ = some (Value.pointer (some ⟨p, 0, none⟩)) ∧ wz.cell? ⟨pb, 1, none⟩ = some (Value.pointer (some ⟨rb, 0, none⟩)) ∧ wz.cell? ⟨rb, 3, none⟩ = some (Value.bool r.on)) X) := ⟨(PH.c0 hpX).1, (PH.c0 hpX).2, (PA.rm hpX).b.cell 3⟩
  have HA1 : Hid (∀ w', DM L p s x w' → Calls Try.prog 17 #[.pointer (some ⟨p, 0, none⟩)] w' fun e w2 => e = .returned (Value.bool r.on) ∧ w2 = w') := fun w' hd => by
    have h1 := isOn_any w' hd
    rw [ha.off, Bool.not_not] at h1
    exact h1
  clear h hk hn ha hx hLw hpX hbX hBX
  go_enter Try.func42, Try.ntmps42
  go_upto_region 1 with fail
  rw [← hX, ← hob]
  clear hX hob
  go_wp2_with fail
  rename_i K hK
  try rw [show ∀ a : Act, a.put none undef = a from fun _ => rfl]
  refine wp_region_mix (fun wz : World => wz.cell? ⟨pb, 0, none⟩ = some (Value.pointer (some ⟨p, 0, none⟩)) ∧ wz.cell? ⟨pb, 1, none⟩ = some (Value.pointer (some ⟨rb, 0, none⟩)) ∧ wz.cell? ⟨rb, 3, none⟩ = some (Value.bool r.on)) (fun i => i == 4 || i == 99) 99 (by kernel_rfl) rfl (by kernel_rfl) (by kernel_rfl) (by kernel_rfl) ?_
  refine withFrP (N := 174) rfl ?_
  intro f0 F0 hff
  have ee0 : f0 0 = Value.pointer (some ⟨pb, 0, none⟩) := hff 0
  have ee3 : f0 3 = Value.pointer (some ⟨ob, 0, none⟩) := hff 3
  clear hff
  have HCC : (fun wz : World => wz.cell? ⟨pb, 0, none⟩ = some (Value.pointer (some ⟨p, 0, none⟩)) ∧ wz.cell? ⟨pb, 1, none⟩ = some (Value.pointer (some ⟨rb, 0, none⟩)) ∧ wz.cell? ⟨rb, 3, none⟩ = some (Value.bool r.on)) (({ X with drawn := X.drawn + 1 } : World)) := HCX.out
  refine lyp F0 rfl HCC rfl (by omega) (wanted_none rfl) (v := Value.pointer (some ⟨pb, 0, none⟩)) (fun wr hwr => by simp only [execOp, (F0.eval 0 (by omega)).trans (show _ = Value.pointer (some ⟨pb, 0, none⟩) from by simp [upd, ee0, ee3])]; first | rfl | simp [go_sem]) fun F1 => ?_
  refine lyp F1 rfl HCC rfl (by omega) (wanted_none rfl) (v := Value.pointer (some ⟨pb, 0, none⟩)) (fun wr hwr => by simp only [execOp, (F1.eval 54 (by omega)).trans (show _ = Value.pointer (some ⟨pb, 0, none⟩) from by simp [upd, ee0, ee3])]; simp [go_sem]) fun F2 => ?_
  refine lyp F2 rfl HCC rfl (by omega) (wanted_none rfl) (v := Value.pointer (some ⟨pb, 0, none⟩)) (fun wr hwr => by simp only [execOp, (F2.eval 55 (by omega)).trans (show _ = Value.pointer (some ⟨pb, 0, none⟩) from by simp [upd, ee0, ee3])]; simp [go_sem]) fun F3 => ?_
  refine lyp F3 rfl HCC rfl (by omega) (wanted_none rfl) (v := Value.pointer (some ⟨p, 0, none⟩)) (fun wr hwr => by simp only [execOp, (F3.eval 56 (by omega)).trans (show _ = Value.pointer (some ⟨pb, 0, none⟩) from by simp [upd, ee0, ee3])]; simp [go_sem, hwr.1]) fun F4 => ?_
  refine lcp F4 rfl HCC rfl (by omega) (wanted_none rfl) (g := 17) (args := #[Value.pointer (some ⟨p, 0, none⟩)]) (by simp only [execOp, resolve, invoke, List.map_toArray, List.map_cons, List.map_nil, (F4.eval 57 (by omega)).trans (show _ = Value.pointer (some ⟨p, 0, none⟩) from by simp [upd, ee0, ee3])]; simp [go_sem, Act.eval]) (HA1.out (({ X with drawn := X.drawn + 1 } : World)) (PA.dm (PH.keep0 HPX.out (fun _ => rfl)))) ?_
  rintro e9 w1 ⟨rfl, hw1⟩
  refine ⟨_, rfl, fun F5 => ?_⟩
  have HC1 : (fun wz : World => wz.cell? ⟨pb, 0, none⟩ = some (Value.pointer (some ⟨p, 0, none⟩)) ∧ wz.cell? ⟨pb, 1, none⟩ = some (Value.pointer (some ⟨rb, 0, none⟩)) ∧ wz.cell? ⟨rb, 3, none⟩ = some (Value.bool r.on)) w1 := by rw [hw1]; exact HCX.out
  refine lyp F5 rfl HC1 rfl (by omega) (wanted_none rfl) (v := Value.pointer (some ⟨pb, 0, none⟩)) (fun wr hwr => by simp only [execOp, (F5.eval 0 (by omega)).trans (show _ = Value.pointer (some ⟨pb, 0, none⟩) from by simp [upd, ee0, ee3])]; first | rfl | simp [go_sem]) fun F6 => ?_
  refine lyp F6 rfl HC1 rfl (by omega) (wanted_none rfl) (v := Value.pointer (some ⟨pb, 0, none⟩)) (fun wr hwr => by simp only [execOp, (F6.eval 59 (by omega)).trans (show _ = Value.pointer (some ⟨pb, 0, none⟩) from by simp [upd, ee0, ee3])]; simp [go_sem]) fun F7 => ?_
  refine lyp F7 rfl HC1 rfl (by omega) (wanted_none rfl) (v := Value.pointer (some ⟨pb, 1, none⟩)) (fun wr hwr => by simp only [execOp, (F7.eval 60 (by omega)).trans (show _ = Value.pointer (some ⟨pb, 0, none⟩) from by simp [upd, ee0, ee3])]; simp [go_sem]) fun F8 => ?_
  refine lyp F8 rfl HC1 rfl (by omega) (wanted_none rfl) (v := Value.pointer (some ⟨rb, 0, none⟩)) (fun wr hwr => by simp only [execOp, (F8.eval 61 (by omega)).trans (show _ = Value.pointer (some ⟨pb, 1, none⟩) from by simp [upd, ee0, ee3])]; simp [go_sem, hwr.2.1]) fun F9 => ?_
  refine lyp F9 rfl HC1 rfl (by omega) (wanted_none rfl) (v := Value.pointer (some ⟨rb, 0, none⟩)) (fun wr hwr => by simp only [execOp, (F9.eval 62 (by omega)).trans (show _ = Value.pointer (some ⟨rb, 0, none⟩) from by simp [upd, ee0, ee3])]; simp [go_sem]) fun F10 => ?_
  refine lyp F10 rfl HC1 rfl (by omega) (wanted_none rfl) (v := Value.pointer (some ⟨rb, 3, none⟩)) (fun wr hwr => by simp only [execOp, (F10.eval 63 (by omega)).trans (show _ = Value.pointer (some ⟨rb, 0, none⟩) from by simp [upd, ee0, ee3])]; simp [go_sem]) fun F11 => ?_
  refine lyp F11 rfl HC1 rfl (by omega) (wanted_none rfl) (v := Value.bool r.on) (fun wr hwr => by simp only [execOp, (F11.eval 64 (by omega)).trans (show _ = Value.pointer (some ⟨rb, 3, none⟩) from by simp [upd, ee0, ee3])]; simp [go_sem, hwr.2.2]) fun F12 => ?_
  refine lyp F12 rfl HC1 rfl (by omega) (wanted_none rfl) (v := Value.bool true) (fun wr hwr => by simp only [execOp, (F12.eval 58 (by omega)).trans (show _ = Value.bool r.on from by simp [upd, ee0, ee3]), (F12.eval 65 (by omega)).trans (show _ = Value.bool r.on from by simp [upd, ee0, ee3])]; simp [go_sem, Act.eval]) fun F13 => ?_
  refine lyp F13 rfl HC1 rfl (by omega) (wanted_none rfl) (v := Value.bool true) (fun wr hwr => by simp only [execOp, (F13.eval 66 (by omega)).trans (show _ = Value.bool true from by simp [upd, ee0, ee3])]; first | rfl | simp [go_sem]) fun F14 => ?_
  refine ⟨fun _ => HC1, ?_⟩
  clear F0 F1 F2 F3 F4 F5 F6 F7 F8 F9 F10 F11 F12 F13 F14 ee0 ee3 HCC HC1
  simp only [Act.put, List.setIfInBounds_toArray, List.set_cons_succ, List.set_cons_zero]
  subst hw1
  have HF : Hid (PA L pb p s rb S fv lv lent n zs x r R ({ X with drawn := X.drawn + 1 } : World) ∧ Below L w ({ X with drawn := X.drawn + 1 } : World)) := ⟨PH.keep0 HPX.out (fun _ => rfl), HBL.out.os, HBL.out.tape, HBL.out.output, HBL.out.size, HBL.out.block⟩
  clear HCX HPX HBX o0
  go_wp2_with fail
  go_ret
  exact ⟨rfl, S, n, Nat.le_succ _, HOK.out.1, HF.out.1, HF.out.2⟩
set_option maxRecDepth 100000 in
set_option maxHeartbeats 6400000 in
theorem tells_sectors (owho oN oM : Int) (w : World) (h : PA L pb p s rb S fv lv lent n zs x r R w) (hk : S.Ok n) (hn : n ≤ 10000) (ha : AgD x r) (hx : r.log.length ≤ 1000) :
    Calls Try.prog 42 #[.pointer (some ⟨pb, 0, none⟩), .agg #[.int .i64 7, .int .i64 owho, .int .i64 oN, .int .i64 oM, bv]] w (TelO L pb p s rb fv lv lent n zs x r R w) := by
  obtain ⟨ob, hob⟩ : ∃ b, b = w.heap.size := ⟨_, rfl⟩
  obtain ⟨X, hX⟩ : ∃ X, X = w.alloc (.cells #[.int .i64 7, .int .i64 owho, .int .i64 oN, .int .i64 oM, bv] 58) := ⟨_, rfl⟩
  have hbX : Below w.heap.size w X := by rw [hX]; exact (Below.refl _ _).alloc (Nat.le_refl _) _
  have hBX : Blk X ob #[.int .i64 7, .int .i64 owho, .int .i64 oN, .int .i64 oM, bv] 58 := by rw [hX, hob]; exact heap_alloc_new w _
  have hLw : L ≤ w.heap.size := PH.low h
  have hpX : PA L pb p s rb S fv lv lent n zs x r R X := PH.more h hbX
  have HBL : Hid (Below L w X) := hbX.mono hLw
  have o0 : X.cell? ⟨ob, 0, none⟩ = some (.int .i64 7) := hBX.cell 0
  have HPX : Hid (PA L pb p s rb S fv lv lent n zs x r R X) := hpX
  have HOK : Hid (S.Ok n ∧ n ≤ 10000) := ⟨hk, hn⟩
  have HAG : Hid (AgD x r ∧ r.log.length ≤ 1000) := ⟨ha, hx⟩
  have HBX : Hid (Blk X ob #[.int .i64 7, .int .i64 owho, .int .i64 oN, .int .i64 oM, bv] 58) := hBX
  have HCX : Hid ((fun wz : World => wz.cell? ⟨pb, 0, none⟩ = some (Value.pointer (some ⟨p, 0, none⟩)) ∧ wz.cell? ⟨pb, 1, none⟩ = some (Value.pointer (some ⟨rb, 0, none⟩)) ∧ wz.cell? ⟨rb, 0, none⟩ = some (Value.int .i64 (r.n : Int))) X) := ⟨(PH.c0 hpX).1, (PH.c0 hpX).2, (PA.rm hpX).b.cell 0⟩
  have HA1 : Hid (∀ w', DM L p s x w' → Calls Try.prog 25 #[.pointer (some ⟨p, 0, none⟩)] w' fun e w2 => e = .returned (Value.int .i64 (r.n : Int)) ∧ w2 = w') := fun w' hd => by
    have h1 := sectors_any w' hd
    rw [ha.n] at h1
    exact h1
  clear h hk hn ha hx hLw hpX hbX hBX
  go_enter Try.func42, Try.ntmps42
  go_upto_region 1 with fail
  rw [← hX, ← hob]
  clear hX hob
  go_wp2_with fail
  rename_i K hK
  try rw [show ∀ a : Act, a.put none undef = a from fun _ => rfl]
  refine wp_region_mix (fun wz : World => wz.cell? ⟨pb, 0, none⟩ = some (Value.pointer (some ⟨p, 0, none⟩)) ∧ wz.cell? ⟨pb, 1, none⟩ = some (Value.pointer (some ⟨rb, 0, none⟩)) ∧ wz.cell? ⟨rb, 0, none⟩ = some (Value.int .i64 (r.n : Int))) (fun i => i == 4 || i == 99) 99 (by kernel_rfl) rfl (by kernel_rfl) (by kernel_rfl) (by kernel_rfl) ?_
  refine withFrP (N := 174) rfl ?_
  intro f0 F0 hff
  have ee0 : f0 0 = Value.pointer (some ⟨pb, 0, none⟩) := hff 0
  have ee3 : f0 3 = Value.pointer (some ⟨ob, 0, none⟩) := hff 3
  clear hff
  have HCC : (fun wz : World => wz.cell? ⟨pb, 0, none⟩ = some (Value.pointer (some ⟨p, 0, none⟩)) ∧ wz.cell? ⟨pb, 1, none⟩ = some (Value.pointer (some ⟨rb, 0, none⟩)) ∧ wz.cell? ⟨rb, 0, none⟩ = some (Value.int .i64 (r.n : Int))) (({ X with drawn := X.drawn + 1 } : World)) := HCX.out
  refine lyp F0 rfl HCC rfl (by omega) (wanted_none rfl) (v := Value.pointer (some ⟨pb, 0, none⟩)) (fun wr hwr => by simp only [execOp, (F0.eval 0 (by omega)).trans (show _ = Value.pointer (some ⟨pb, 0, none⟩) from by simp [upd, ee0, ee3])]; first | rfl | simp [go_sem]) fun F1 => ?_
  refine lyp F1 rfl HCC rfl (by omega) (wanted_none rfl) (v := Value.pointer (some ⟨pb, 0, none⟩)) (fun wr hwr => by simp only [execOp, (F1.eval 69 (by omega)).trans (show _ = Value.pointer (some ⟨pb, 0, none⟩) from by simp [upd, ee0, ee3])]; simp [go_sem]) fun F2 => ?_
  refine lyp F2 rfl HCC rfl (by omega) (wanted_none rfl) (v := Value.pointer (some ⟨pb, 0, none⟩)) (fun wr hwr => by simp only [execOp, (F2.eval 70 (by omega)).trans (show _ = Value.pointer (some ⟨pb, 0, none⟩) from by simp [upd, ee0, ee3])]; simp [go_sem]) fun F3 => ?_
  refine lyp F3 rfl HCC rfl (by omega) (wanted_none rfl) (v := Value.pointer (some ⟨p, 0, none⟩)) (fun wr hwr => by simp only [execOp, (F3.eval 71 (by omega)).trans (show _ = Value.pointer (some ⟨pb, 0, none⟩) from by simp [upd, ee0, ee3])]; simp [go_sem, hwr.1]) fun F4 => ?_
  refine lcp F4 rfl HCC rfl (by omega) (wanted_none rfl) (g := 25) (args := #[Value.pointer (some ⟨p, 0, none⟩)]) (by simp only [execOp, resolve, invoke, List.map_toArray, List.map_cons, List.map_nil, (F4.eval 72 (by omega)).trans (show _ = Value.pointer (some ⟨p, 0, none⟩) from by simp [upd, ee0, ee3])]; simp [go_sem, Act.eval]) (HA1.out (({ X with drawn := X.drawn + 1 } : World)) (PA.dm (PH.keep0 HPX.out (fun _ => rfl)))) ?_
  rintro e9 w1 ⟨rfl, hw1⟩
  refine ⟨_, rfl, fun F5 => ?_⟩
  have HC1 : (fun wz : World => wz.cell? ⟨pb, 0, none⟩ = some (Value.pointer (some ⟨p, 0, none⟩)) ∧ wz.cell? ⟨pb, 1, none⟩ = some (Value.pointer (some ⟨rb, 0, none⟩)) ∧ wz.cell? ⟨rb, 0, none⟩ = some (Value.int .i64 (r.n : Int))) w1 := by rw [hw1]; exact HCX.out
  refine lyp F5 rfl HC1 rfl (by omega) (wanted_none rfl) (v := Value.pointer (some ⟨pb, 0, none⟩)) (fun wr hwr => by simp only [execOp, (F5.eval 0 (by omega)).trans (show _ = Value.pointer (some ⟨pb, 0, none⟩) from by simp [upd, ee0, ee3])]; first | rfl | simp [go_sem]) fun F6 => ?_
  refine lyp F6 rfl HC1 rfl (by omega) (wanted_none rfl) (v := Value.pointer (some ⟨pb, 0, none⟩)) (fun wr hwr => by simp only [execOp, (F6.eval 74 (by omega)).trans (show _ = Value.pointer (some ⟨pb, 0, none⟩) from by simp [upd, ee0, ee3])]; simp [go_sem]) fun F7 => ?_
  refine lyp F7 rfl HC1 rfl (by omega) (wanted_none rfl) (v := Value.pointer (some ⟨pb, 1, none⟩)) (fun wr hwr => by simp only [execOp, (F7.eval 75 (by omega)).trans (show _ = Value.pointer (some ⟨pb, 0, none⟩) from by simp [upd, ee0, ee3])]; simp [go_sem]) fun F8 => ?_
  refine lyp F8 rfl HC1 rfl (by omega) (wanted_none rfl) (v := Value.pointer (some ⟨rb, 0, none⟩)) (fun wr hwr => by simp only [execOp, (F8.eval 76 (by omega)).trans (show _ = Value.pointer (some ⟨pb, 1, none⟩) from by simp [upd, ee0, ee3])]; simp [go_sem, hwr.2.1]) fun F9 => ?_
  refine lyp F9 rfl HC1 rfl (by omega) (wanted_none rfl) (v := Value.pointer (some ⟨rb, 0, none⟩)) (fun wr hwr => by simp only [execOp, (F9.eval 77 (by omega)).trans (show _ = Value.pointer (some ⟨rb, 0, none⟩) from by simp [upd, ee0, ee3])]; simp [go_sem]) fun F10 => ?_
  refine lyp F10 rfl HC1 rfl (by omega) (wanted_none rfl) (v := Value.pointer (some ⟨rb, 0, none⟩)) (fun wr hwr => by simp only [execOp, (F10.eval 78 (by omega)).trans (show _ = Value.pointer (some ⟨rb, 0, none⟩) from by simp [upd, ee0, ee3])]; simp [go_sem]) fun F11 => ?_
  refine lyp F11 rfl HC1 rfl (by omega) (wanted_none rfl) (v := Value.int .i64 (r.n : Int)) (fun wr hwr => by simp only [execOp, (F11.eval 79 (by omega)).trans (show _ = Value.pointer (some ⟨rb, 0, none⟩) from by simp [upd, ee0, ee3])]; simp [go_sem, hwr.2.2]) fun F12 => ?_
  refine lyp F12 rfl HC1 rfl (by omega) (wanted_none rfl) (v := Value.bool true) (fun wr hwr => by simp only [execOp, (F12.eval 73 (by omega)).trans (show _ = Value.int .i64 (r.n : Int) from by simp [upd, ee0, ee3]), (F12.eval 80 (by omega)).trans (show _ = Value.int .i64 (r.n : Int) from by simp [upd, ee0, ee3])]; simp [go_sem, Act.eval]) fun F13 => ?_
  refine lyp F13 rfl HC1 rfl (by omega) (wanted_none rfl) (v := Value.bool true) (fun wr hwr => by simp only [execOp, (F13.eval 81 (by omega)).trans (show _ = Value.bool true from by simp [upd, ee0, ee3])]; first | rfl | simp [go_sem]) fun F14 => ?_
  refine ⟨fun _ => HC1, ?_⟩
  clear F0 F1 F2 F3 F4 F5 F6 F7 F8 F9 F10 F11 F12 F13 F14 ee0 ee3 HCC HC1
  simp only [Act.put, List.setIfInBounds_toArray, List.set_cons_succ, List.set_cons_zero]
  subst hw1
  have HF : Hid (PA L pb p s rb S fv lv lent n zs x r R ({ X with drawn := X.drawn + 1 } : World) ∧ Below L w ({ X with drawn := X.drawn + 1 } : World)) := ⟨PH.keep0 HPX.out (fun _ => rfl), HBL.out.os, HBL.out.tape, HBL.out.output, HBL.out.size, HBL.out.block⟩
  clear HCX HPX HBX o0
  go_wp2_with fail
  go_ret
  exact ⟨rfl, S, n, Nat.le_succ _, HOK.out.1, HF.out.1, HF.out.2⟩
set_option maxRecDepth 100000 in
set_option maxHeartbeats 6400000 in
theorem tells_writes (owho oN oM : Int) (w : World) (h : PA L pb p s rb S fv lv lent n zs x r R w) (hk : S.Ok n) (hn : n ≤ 10000) (ha : AgD x r) (hx : r.log.length ≤ 1000) :
    Calls Try.prog 42 #[.pointer (some ⟨pb, 0, none⟩), .agg #[.int .i64 8, .int .i64 owho, .int .i64 oN, .int .i64 oM, bv]] w (TelO L pb p s rb fv lv lent n zs x r R w) := by
  obtain ⟨ob, hob⟩ : ∃ b, b = w.heap.size := ⟨_, rfl⟩
  obtain ⟨X, hX⟩ : ∃ X, X = w.alloc (.cells #[.int .i64 8, .int .i64 owho, .int .i64 oN, .int .i64 oM, bv] 58) := ⟨_, rfl⟩
  have hbX : Below w.heap.size w X := by rw [hX]; exact (Below.refl _ _).alloc (Nat.le_refl _) _
  have hBX : Blk X ob #[.int .i64 8, .int .i64 owho, .int .i64 oN, .int .i64 oM, bv] 58 := by rw [hX, hob]; exact heap_alloc_new w _
  have hLw : L ≤ w.heap.size := PH.low h
  have hpX : PA L pb p s rb S fv lv lent n zs x r R X := PH.more h hbX
  have HBL : Hid (Below L w X) := hbX.mono hLw
  have o0 : X.cell? ⟨ob, 0, none⟩ = some (.int .i64 8) := hBX.cell 0
  have HPX : Hid (PA L pb p s rb S fv lv lent n zs x r R X) := hpX
  have HOK : Hid (S.Ok n ∧ n ≤ 10000) := ⟨hk, hn⟩
  have HAG : Hid (AgD x r ∧ r.log.length ≤ 1000) := ⟨ha, hx⟩
  have HBX : Hid (Blk X ob #[.int .i64 8, .int .i64 owho, .int .i64 oN, .int .i64 oM, bv] 58) := hBX
  have HCX : Hid ((fun wz : World => wz.cell? ⟨pb, 0, none⟩ = some (Value.pointer (some ⟨p, 0, none⟩)) ∧ wz.cell? ⟨pb, 1, none⟩ = some (Value.pointer (some ⟨rb, 0, none⟩))) X) := ⟨(PH.c0 hpX).1, (PH.c0 hpX).2⟩
  have HA1 : Hid (∀ w', DM L p s x w' → Calls Try.prog 20 #[.pointer (some ⟨p, 0, none⟩)] w' fun e w2 => e = .returned (Value.int .i64 (r.log.length : Int)) ∧ w2 = w') := fun w' hd => by
    have h1 := writes_any w' hd
    rw [ha.wr] at h1
    exact h1
  clear h hk hn ha hx hLw hpX hbX hBX
  go_enter Try.func42, Try.ntmps42
  go_upto_region 1 with fail
  rw [← hX, ← hob]
  clear hX hob
  go_wp2_with fail
  rename_i K hK
  try rw [show ∀ a : Act, a.put none undef = a from fun _ => rfl]
  refine wp_region_mix (fun wz : World => wz.cell? ⟨pb, 0, none⟩ = some (Value.pointer (some ⟨p, 0, none⟩)) ∧ wz.cell? ⟨pb, 1, none⟩ = some (Value.pointer (some ⟨rb, 0, none⟩))) (fun i => i == 4 || i == 9 || i == 99) 99 (by kernel_rfl) rfl (by kernel_rfl) (by kernel_rfl) (by kernel_rfl) ?_
  refine withFrP (N := 174) rfl ?_
  intro f0 F0 hff
  have ee0 : f0 0 = Value.pointer (some ⟨pb, 0, none⟩) := hff 0
  have ee3 : f0 3 = Value.pointer (some ⟨ob, 0, none⟩) := hff 3
  clear hff
  have HCC : (fun wz : World => wz.cell? ⟨pb, 0, none⟩ = some (Value.pointer (some ⟨p, 0, none⟩)) ∧ wz.cell? ⟨pb, 1, none⟩ = some (Value.pointer (some ⟨rb, 0, none⟩))) (({ X with drawn := X.drawn + 1 } : World)) := HCX.out
  refine lyp F0 rfl HCC rfl (by omega) (wanted_none rfl) (v := Value.pointer (some ⟨pb, 0, none⟩)) (fun wr hwr => by simp only [execOp, (F0.eval 0 (by omega)).trans (show _ = Value.pointer (some ⟨pb, 0, none⟩) from by simp [upd, ee0, ee3])]; first | rfl | simp [go_sem]) fun F1 => ?_
  refine lyp F1 rfl HCC rfl (by omega) (wanted_none rfl) (v := Value.pointer (some ⟨pb, 0, none⟩)) (fun wr hwr => by simp only [execOp, (F1.eval 84 (by omega)).trans (show _ = Value.pointer (some ⟨pb, 0, none⟩) from by simp [upd, ee0, ee3])]; simp [go_sem]) fun F2 => ?_
  refine lyp F2 rfl HCC rfl (by omega) (wanted_none rfl) (v := Value.pointer (some ⟨pb, 0, none⟩)) (fun wr hwr => by simp only [execOp, (F2.eval 85 (by omega)).trans (show _ = Value.pointer (some ⟨pb, 0, none⟩) from by simp [upd, ee0, ee3])]; simp [go_sem]) fun F3 => ?_
  refine lyp F3 rfl HCC rfl (by omega) (wanted_none rfl) (v := Value.pointer (some ⟨p, 0, none⟩)) (fun wr hwr => by simp only [execOp, (F3.eval 86 (by omega)).trans (show _ = Value.pointer (some ⟨pb, 0, none⟩) from by simp [upd, ee0, ee3])]; simp [go_sem, hwr.1]) fun F4 => ?_
  refine lcp F4 rfl HCC rfl (by omega) (wanted_none rfl) (g := 20) (args := #[Value.pointer (some ⟨p, 0, none⟩)]) (by simp only [execOp, resolve, invoke, List.map_toArray, List.map_cons, List.map_nil, (F4.eval 87 (by omega)).trans (show _ = Value.pointer (some ⟨p, 0, none⟩) from by simp [upd, ee0, ee3])]; simp [go_sem, Act.eval]) (HA1.out (({ X with drawn := X.drawn + 1 } : World)) (PA.dm (PH.keep0 HPX.out (fun _ => rfl)))) ?_
  rintro e9 w1 ⟨rfl, hw1⟩
  refine ⟨_, rfl, fun F5 => ?_⟩
  have HC1 : (fun wz : World => wz.cell? ⟨pb, 0, none⟩ = some (Value.pointer (some ⟨p, 0, none⟩)) ∧ wz.cell? ⟨pb, 1, none⟩ = some (Value.pointer (some ⟨rb, 0, none⟩))) w1 := by rw [hw1]; exact HCX.out
  refine lyp F5 rfl HC1 rfl (by omega) (wanted_none rfl) (v := Value.pointer (some ⟨pb, 0, none⟩)) (fun wr hwr => by simp only [execOp, (F5.eval 0 (by omega)).trans (show _ = Value.pointer (some ⟨pb, 0, none⟩) from by simp [upd, ee0, ee3])]; first | rfl | simp [go_sem]) fun F6 => ?_
  refine lyp F6 rfl HC1 rfl (by omega) (wanted_none rfl) (v := Value.pointer (some ⟨pb, 0, none⟩)) (fun wr hwr => by simp only [execOp, (F6.eval 89 (by omega)).trans (show _ = Value.pointer (some ⟨pb, 0, none⟩) from by simp [upd, ee0, ee3])]; simp [go_sem]) fun F7 => ?_
  refine lyp F7 rfl HC1 rfl (by omega) (wanted_none rfl) (v := Value.pointer (some ⟨pb, 1, none⟩)) (fun wr hwr => by simp only [execOp, (F7.eval 90 (by omega)).trans (show _ = Value.pointer (some ⟨pb, 0, none⟩) from by simp [upd, ee0, ee3])]; simp [go_sem]) fun F8 => ?_
  refine lyp F8 rfl HC1 rfl (by omega) (wanted_none rfl) (v := Value.pointer (some ⟨rb, 0, none⟩)) (fun wr hwr => by simp only [execOp, (F8.eval 91 (by omega)).trans (show _ = Value.pointer (some ⟨pb, 1, none⟩) from by simp [upd, ee0, ee3])]; simp [go_sem, hwr.2]) fun F9 => ?_
  refine lcp F9 rfl HC1 rfl (by omega) (wanted_none rfl) (g := 52) (args := #[Value.pointer (some ⟨rb, 0, none⟩)]) (by simp only [execOp, resolve, invoke, List.map_toArray, List.map_cons, List.map_nil, (F9.eval 92 (by omega)).trans (show _ = Value.pointer (some ⟨rb, 0, none⟩) from by simp [upd, ee0, ee3])]; simp [go_sem, Act.eval]) (rwrites_any w1 (by rw [hw1]; exact PA.rm (PH.keep0 HPX.out (fun _ => rfl)))) ?_
  rintro e9 w2 ⟨rfl, hw2⟩
  refine ⟨_, rfl, fun F10 => ?_⟩
  have HC2 : (fun wz : World => wz.cell? ⟨pb, 0, none⟩ = some (Value.pointer (some ⟨p, 0, none⟩)) ∧ wz.cell? ⟨pb, 1, none⟩ = some (Value.pointer (some ⟨rb, 0, none⟩))) w2 := by rw [hw2, hw1]; exact HCX.out
  refine lyp F10 rfl HC2 rfl (by omega) (wanted_none rfl) (v := Value.bool true) (fun wr hwr => by simp only [execOp, (F10.eval 88 (by omega)).trans (show _ = Value.int .i64 (r.log.length : Int) from by simp [upd, ee0, ee3]), (F10.eval 93 (by omega)).trans (show _ = Value.int .i64 (r.log.length : Int) from by simp [upd, ee0, ee3])]; simp [go_sem, Act.eval]) fun F11 => ?_
  refine lyp F11 rfl HC2 rfl (by omega) (wanted_none rfl) (v := Value.bool true) (fun wr hwr => by simp only [execOp, (F11.eval 94 (by omega)).trans (show _ = Value.bool true from by simp [upd, ee0, ee3])]; first | rfl | simp [go_sem]) fun F12 => ?_
  refine ⟨fun _ => HC2, ?_⟩
  clear F0 F1 F2 F3 F4 F5 F6 F7 F8 F9 F10 F11 F12 ee0 ee3 HCC HC1 HC2
  simp only [Act.put, List.setIfInBounds_toArray, List.set_cons_succ, List.set_cons_zero]
  subst hw2
  subst hw1
  have HF : Hid (PA L pb p s rb S fv lv lent n zs x r R ({ X with drawn := X.drawn + 1 } : World) ∧ Below L w ({ X with drawn := X.drawn + 1 } : World)) := ⟨PH.keep0 HPX.out (fun _ => rfl), HBL.out.os, HBL.out.tape, HBL.out.output, HBL.out.size, HBL.out.block⟩
  clear HCX HPX HBX o0
  go_wp2_with fail
  go_ret
  exact ⟨rfl, S, n, Nat.le_succ _, HOK.out.1, HF.out.1, HF.out.2⟩
set_option maxRecDepth 100000 in
set_option maxHeartbeats 6400000 in
theorem tells_trace (owho oN oM : Int) (w : World) (h : PA L pb p s rb S fv lv lent n zs x r R w) (hk : S.Ok n) (hn : n ≤ 10000) (ha : AgD x r) (hx : r.log.length ≤ 1000) :
    Calls Try.prog 42 #[.pointer (some ⟨pb, 0, none⟩), .agg #[.int .i64 9, .int .i64 owho, .int .i64 oN, .int .i64 oM, bv]] w (TelO L pb p s rb fv lv lent n zs x r R w) := by
  obtain ⟨ob, hob⟩ : ∃ b, b = w.heap.size := ⟨_, rfl⟩
  obtain ⟨X, hX⟩ : ∃ X, X = w.alloc (.cells #[.int .i64 9, .int .i64 owho, .int .i64 oN, .int .i64 oM, bv] 58) := ⟨_, rfl⟩
  have hbX : Below w.heap.size w X := by rw [hX]; exact (Below.refl _ _).alloc (Nat.le_refl _) _
  have hBX : Blk X ob #[.int .i64 9, .int .i64 owho, .int .i64 oN, .int .i64 oM, bv] 58 := by rw [hX, hob]; exact heap_alloc_new w _
  have hLw : L ≤ w.heap.size := PH.low h
  have hpX : PA L pb p s rb S fv lv lent n zs x r R X := PH.more h hbX
  have HBL : Hid (Below L w X) := hbX.mono hLw
  have o0 : X.cell? ⟨ob, 0, none⟩ = some (.int .i64 9) := hBX.cell 0
  have HPX : Hid (PA L pb p s rb S fv lv lent n zs x r R X) := hpX
  have HOK : Hid (S.Ok n ∧ n ≤ 10000) := ⟨hk, hn⟩
  have HAG : Hid (AgD x r ∧ r.log.length ≤ 1000) := ⟨ha, hx⟩
  have HBX : Hid (Blk X ob #[.int .i64 9, .int .i64 owho, .int .i64 oN, .int .i64 oM, bv] 58) := hBX
  have HT : Hid _ := traces_yes X hpX hk hn ha hx
  clear h hk hn ha hx hLw hpX hbX hBX
  go_enter Try.func42, Try.ntmps42
  go_upto_region 1 with fail
  rw [← hX, ← hob]
  clear hX hob
  go_wp2_with fail
  refine Calls.mono HT.out ?_
  rintro e w1 ⟨S1, rfl, hk1, hp1, hb1⟩
  have HF : Hid (S1.Ok (n + 1) ∧ PA L pb p s rb S1 fv lv lent (n + 1) zs x r R w1 ∧ Below L w w1) := ⟨hk1, hp1, HBL.out.trans hb1⟩
  clear HT HPX HBX o0 hk1 hp1 hb1
  go_wp2_with fail
  go_ret
  exact ⟨rfl, S1, n + 1, Nat.le_refl _, HF.out.1, HF.out.2.1, HF.out.2.2⟩
end
end Go.Proofs.Ytlajcaofpmjdlaa
