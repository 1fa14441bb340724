import Derived.Test.YtadfmnlkfcigoaaRf3
namespace Go.Proofs.Ytadfmnlkfcigoaa
open Go.RowKit Go.PlainAid Go.MapKept
set_option linter.unusedVariables false
set_option linter.unusedSimpArgs false
set_option maxRecDepth 100000 in
set_option maxHeartbeats 3200000 in
theorem rend_none {a : CA} {B rb : Nat} {r : RS} (s i ee vv : Int) (w : World) (h : RC a B rb r w) (hok : COk a) (hmi : ¬ mine a.me a.rep a.ses s) :
    Calls Try.prog 34 #[.pointer (some ⟨rb, 0, none⟩), .agg #[.int .i64 s, .int .i64 i, .int .i64 ee, .int .i64 vv]] w fun e w' => e = .returned (.int .i64 132) ∧ RC a B rb r w' ∧ Below w.heap.size w w' := by
  obtain ⟨X, hX⟩ : ∃ X, X = w.alloc (.cells #[.int .i64 s, .int .i64 i, .int .i64 ee, .int .i64 vv] 36) := ⟨_, rfl⟩
  obtain ⟨cb, hcb⟩ : ∃ cb, cb = w.heap.size := ⟨_, rfl⟩
  have hbX : Below w.heap.size w X := by rw [hX]; exact (Below.refl _ _).alloc (Nat.le_refl _) _
  have HCB : Hid (Blk X cb #[.int .i64 s, .int .i64 i, .int .i64 ee, .int .i64 vv] 36) := show Blk X cb #[.int .i64 s, .int .i64 i, .int .i64 ee, .int .i64 vv] 36 from by rw [hX, hcb]; exact heap_alloc_new w _
  have HBX : Hid (Below w.heap.size w X) := hbX
  have HRX : Hid (RC a B rb r X) := h.more hbX
  have HRW : Hid (RC a B rb r w) := h
  have HLO : Hid (w.heap.size ≤ cb) := show w.heap.size ≤ cb from by omega
  have HM : Hid (∀ q, Calls Try.prog 35 #[.pointer (some ⟨rb, 0, none⟩), .int .i64 s] (X.drewN q) fun e w' => e = .returned (.bool false) ∧ ∃ q', w' = (X.drewN q).drewN q') := fun q => by
    have := mine_any s (X.drewN q) ((h.more hbX).more (below_drewN (Below.refl _ _) q)) hok
    rw [show decide (mine a.me a.rep a.ses s) = false from by simpa using hmi] at this
    exact this
  have k0 : ∀ q, (X.drewN q).cell? ⟨cb, 0, none⟩ = some (.int .i64 s) := fun q => Blk.cell HCB.out 0
  have k1 : ∀ q, (X.drewN q).cell? ⟨cb, 1, none⟩ = some (.int .i64 i) := fun q => Blk.cell HCB.out 1
  clear h hok hbX
  go_enter Try.func34, Try.ntmps34
  go_wp2_with fail
  rw [← hX, ← hcb]
  clear hX hcb
  refine Calls.mono (HM.out 0) ?_
  rintro e w1 ⟨rfl, q, hw1⟩
  rw [World.drewN_drewN] at hw1
  obtain ⟨q1, hq1⟩ : ∃ q1, q1 = 0 + q := ⟨_, rfl⟩
  rw [← hq1] at hw1
  clear hq1 HM
  subst hw1
  go_wp2_with fail
  go_ret
  exact ⟨rfl, HRX.out.more (below_drewN (Below.refl _ _) _), below_drewN HBX.out _⟩
set_option maxRecDepth 100000 in
set_option maxHeartbeats 3200000 in
theorem rend_order {a : CA} {B rb : Nat} {r : RS} (s i ee vv : Int) (w : World) (h : RC a B rb r w) (hok : COk a) (hmi : mine a.me a.rep a.ses s) (ho : r.la s < i) :
    Calls Try.prog 34 #[.pointer (some ⟨rb, 0, none⟩), .agg #[.int .i64 s, .int .i64 i, .int .i64 ee, .int .i64 vv]] w fun e w' => e = .returned (.int .i64 131) ∧ RC a B rb r w' ∧ Below w.heap.size w w' := by
  obtain ⟨k, hks⟩ : ∃ k : Nat, s = k := ⟨s.toNat, by have := hmi.1; omega⟩
  have hk : k < 64 := by have := hmi.2.1; have := hok.ses; omega
  have l0' := h.lac k hk
  rw [← hks] at l0'
  have HKS : Hid (s = k) := hks
  clear hks
  obtain ⟨X, hX⟩ : ∃ X, X = w.alloc (.cells #[.int .i64 s, .int .i64 i, .int .i64 ee, .int .i64 vv] 36) := ⟨_, rfl⟩
  obtain ⟨cb, hcb⟩ : ∃ cb, cb = w.heap.size := ⟨_, rfl⟩
  have hbX : Below w.heap.size w X := by rw [hX]; exact (Below.refl _ _).alloc (Nat.le_refl _) _
  have HCB : Hid (Blk X cb #[.int .i64 s, .int .i64 i, .int .i64 ee, .int .i64 vv] 36) := show Blk X cb #[.int .i64 s, .int .i64 i, .int .i64 ee, .int .i64 vv] 36 from by rw [hX, hcb]; exact heap_alloc_new w _
  have HBX : Hid (Below w.heap.size w X) := hbX
  have HRX : Hid (RC a B rb r X) := h.more hbX
  have HRW : Hid (RC a B rb r w) := h
  have HLO : Hid (w.heap.size ≤ cb) := show w.heap.size ≤ cb from by omega
  have HM : Hid (∀ q, Calls Try.prog 35 #[.pointer (some ⟨rb, 0, none⟩), .int .i64 s] (X.drewN q) fun e w' => e = .returned (.bool true) ∧ ∃ q', w' = (X.drewN q).drewN q') := fun q => by
    have := mine_any s (X.drewN q) ((h.more hbX).more (below_drewN (Below.refl _ _) q)) hok
    rw [show decide (mine a.me a.rep a.ses s) = true from by simpa using hmi] at this
    exact this
  have k0 : ∀ q, (X.drewN q).cell? ⟨cb, 0, none⟩ = some (.int .i64 s) := fun q => Blk.cell HCB.out 0
  have k1 : ∀ q, (X.drewN q).cell? ⟨cb, 1, none⟩ = some (.int .i64 i) := fun q => Blk.cell HCB.out 1
  clear h hok hbX
  have l0 : ∀ q, (X.drewN q).cell? ⟨rb, 4 + k, none⟩ = some (.int .i64 (r.la s)) := fun q => ((HBX.out).cell (p := ⟨rb, 4 + k, none⟩) (World.block_lt_of_cell? w _ l0')).trans l0'
  clear l0'
  go_enter Try.func34, Try.ntmps34
  go_wp2_with fail
  rw [← hX, ← hcb]
  clear hX hcb
  refine Calls.mono (HM.out 0) ?_
  rintro e w1 ⟨rfl, q, hw1⟩
  rw [World.drewN_drewN] at hw1
  obtain ⟨q1, hq1⟩ : ∃ q1, q1 = 0 + q := ⟨_, rfl⟩
  rw [← hq1] at hw1
  clear hq1 HM
  subst hw1
  go_wp2_with fail
  rename_i K7 hK7
  try rw [show ∀ a : Act, a.put none undef = a from fun _ => rfl]
  refine wp_region_mix (fun wq => ∃ q : Nat, wq = X.drewN q) (fun i => i == 99) 99 (by kernel_rfl) rfl (by kernel_rfl) (by kernel_rfl) (by kernel_rfl) ?_
  refine withFrP (N := 63) rfl ?_
  intro f0 F0 hff
  have e0 : f0 0 = Value.pointer (some ⟨rb, 0, none⟩) := hff 0
  have e3 : f0 3 = Value.pointer (some ⟨cb, 0, none⟩) := hff 3
  clear hff
  have HCC : (fun wq => ∃ q : Nat, wq = X.drewN q) (({ (X.drewN q1) with drawn := (X.drewN q1).drawn + 1 } : World)) := ⟨q1 + 1, rfl⟩
  refine lyp F0 rfl HCC rfl (by omega) (wanted_none rfl) (v := Value.pointer (some ⟨cb, 0, none⟩)) (fun wr hwr => by simp only [execOp, (F0.eval 3 (by omega)).trans (show _ = Value.pointer (some ⟨cb, 0, none⟩) from by simp [upd, e0, e3])]; simp [go_sem]) fun F1 => ?_
  refine lyp F1 rfl HCC rfl (by omega) (wanted_none rfl) (v := Value.pointer (some ⟨cb, 1, none⟩)) (fun wr hwr => by simp only [execOp, (F1.eval 15 (by omega)).trans (show _ = Value.pointer (some ⟨cb, 0, none⟩) from by simp [upd, e0, e3])]; simp [go_sem]) fun F2 => ?_
  refine lyp F2 rfl HCC rfl (by omega) (wanted_none rfl) (v := Value.int .i64 i) (fun wr hwr => by obtain ⟨q, rfl⟩ := hwr; simp only [execOp, (F2.eval 16 (by omega)).trans (show _ = Value.pointer (some ⟨cb, 1, none⟩) from by simp [upd, e0, e3])]; simp [go_sem, k1]) fun F3 => ?_
  refine lyp F3 rfl HCC rfl (by omega) (wanted_none rfl) (v := Value.pointer (some ⟨rb, 0, none⟩)) (fun wr hwr => by simp only [execOp, (F3.eval 0 (by omega)).trans (show _ = Value.pointer (some ⟨rb, 0, none⟩) from by simp [upd, e0, e3])]; first | rfl | simp [go_sem]) fun F4 => ?_
  refine lyp F4 rfl HCC rfl (by omega) (wanted_none rfl) (v := Value.pointer (some ⟨cb, 0, none⟩)) (fun wr hwr => by simp only [execOp, (F4.eval 3 (by omega)).trans (show _ = Value.pointer (some ⟨cb, 0, none⟩) from by simp [upd, e0, e3])]; simp [go_sem]) fun F5 => ?_
  refine lyp F5 rfl HCC rfl (by omega) (wanted_none rfl) (v := Value.pointer (some ⟨cb, 0, none⟩)) (fun wr hwr => by simp only [execOp, (F5.eval 19 (by omega)).trans (show _ = Value.pointer (some ⟨cb, 0, none⟩) from by simp [upd, e0, e3])]; simp [go_sem]) fun F6 => ?_
  refine lyp F6 rfl HCC rfl (by omega) (wanted_none rfl) (v := Value.int .i64 ((k : Nat) : Int)) (fun wr hwr => by obtain ⟨q, rfl⟩ := hwr; simp only [execOp, (F6.eval 20 (by omega)).trans (show _ = Value.pointer (some ⟨cb, 0, none⟩) from by simp [upd, e0, e3])]; simp [go_sem, k0]; first | done | omega | exact HKS.out) fun F7 => ?_
  refine lyp F7 rfl HCC rfl (by omega) (wanted_none rfl) (v := Value.pointer (some ⟨rb, 0, none⟩)) (fun wr hwr => by simp only [execOp, (F7.eval 18 (by omega)).trans (show _ = Value.pointer (some ⟨rb, 0, none⟩) from by simp [upd, e0, e3])]; simp [go_sem]) fun F8 => ?_
  refine lyp F8 rfl HCC rfl (by omega) (wanted_none rfl) (v := Value.pointer (some ⟨rb, 4, none⟩)) (fun wr hwr => by simp only [execOp, (F8.eval 22 (by omega)).trans (show _ = Value.pointer (some ⟨rb, 0, none⟩) from by simp [upd, e0, e3])]; simp [go_sem]) fun F9 => ?_
  refine lyp F9 rfl HCC rfl (by omega) (wanted_none rfl) (v := Value.pointer (some ⟨rb, 4 + k, none⟩)) (fun wr hwr => by simp only [execOp, (F9.eval 23 (by omega)).trans (show _ = Value.pointer (some ⟨rb, 4, none⟩) from by simp [upd, e0, e3]), (F9.eval 21 (by omega)).trans (show _ = Value.int .i64 ((k : Nat) : Int) from by simp [upd, e0, e3])]; simp only [Sem.run_bind, Sem.run_pure, Result.andThen_ok, idx44 wr rb 4 k hk]; try rfl) fun F10 => ?_
  refine lyp F10 rfl HCC rfl (by omega) (wanted_none rfl) (v := Value.int .i64 (r.la s)) (fun wr hwr => by obtain ⟨q, rfl⟩ := hwr; simp only [execOp, (F10.eval 24 (by omega)).trans (show _ = Value.pointer (some ⟨rb, 4 + k, none⟩) from by simp [upd, e0, e3])]; simp [go_sem, l0]) fun F11 => ?_
  refine lyp F11 rfl HCC rfl (by omega) (wanted_none rfl) (v := Value.bool true) (fun wr hwr => by simp only [execOp, (F11.eval 17 (by omega)).trans (show _ = Value.int .i64 i from by simp [upd, e0, e3]), (F11.eval 25 (by omega)).trans (show _ = Value.int .i64 (r.la s) from by simp [upd, e0, e3])]; simp [go_sem, Act.eval]; omega) fun F12 => ?_
  refine ⟨fun _ => HCC, ?_⟩
  refine hK7 _ _ ?_
  clear F0 F1 F2 F3 F4 F5 F6 F7 F8 F9 F10 F11 F12 e0 e3 HCC
  simp only [Act.put, List.setIfInBounds_toArray, List.set_cons_succ, List.set_cons_zero]
  obtain ⟨q2, hq2⟩ : ∃ q2, q2 = q1 + 1 := ⟨_, rfl⟩
  rw [show ({ X.drewN q1 with drawn := (X.drewN q1).drawn + 1 } : World) = X.drewN q2 from by rw [hq2]; rfl]
  clear hq2
  go_wp2_with fail
  go_ret
  exact ⟨rfl, HRX.out.more (below_drewN (Below.refl _ _) _), below_drewN HBX.out _⟩
set_option maxRecDepth 100000 in
set_option maxHeartbeats 3200000 in
theorem rend_stale {a : CA} {B rb : Nat} {r : RS} (s i ee vv : Int) (w : World) (h : RC a B rb r w) (hok : COk a) (hmi : mine a.me a.rep a.ses s) (ho : i ≤ r.la s) (hol : r.op.length ≤ 100000) (hin : isIn (s, i) r.op = false) :
    Calls Try.prog 34 #[.pointer (some ⟨rb, 0, none⟩), .agg #[.int .i64 s, .int .i64 i, .int .i64 ee, .int .i64 vv]] w fun e w' => e = .returned (.int .i64 130) ∧ RC a B rb r w' ∧ Below w.heap.size w w' := by
  have HLN : Hid (r.op.length ≤ 100000) := hol
  have HPV : Hid (idxOf (s, i) r.op = -1) := show idxOf (s, i) r.op = -1 from by unfold idxOf; rw [if_neg (by simpa [isIn] using hin)]
  clear hin hol
  obtain ⟨k, hks⟩ : ∃ k : Nat, s = k := ⟨s.toNat, by have := hmi.1; omega⟩
  have hk : k < 64 := by have := hmi.2.1; have := hok.ses; omega
  have l0' := h.lac k hk
  rw [← hks] at l0'
  have HKS : Hid (s = k) := hks
  clear hks
  obtain ⟨X, hX⟩ : ∃ X, X = w.alloc (.cells #[.int .i64 s, .int .i64 i, .int .i64 ee, .int .i64 vv] 36) := ⟨_, rfl⟩
  obtain ⟨cb, hcb⟩ : ∃ cb, cb = w.heap.size := ⟨_, rfl⟩
  have hbX : Below w.heap.size w X := by rw [hX]; exact (Below.refl _ _).alloc (Nat.le_refl _) _
  have HCB : Hid (Blk X cb #[.int .i64 s, .int .i64 i, .int .i64 ee, .int .i64 vv] 36) := show Blk X cb #[.int .i64 s, .int .i64 i, .int .i64 ee, .int .i64 vv] 36 from by rw [hX, hcb]; exact heap_alloc_new w _
  have HBX : Hid (Below w.heap.size w X) := hbX
  have HRX : Hid (RC a B rb r X) := h.more hbX
  have HRW : Hid (RC a B rb r w) := h
  have HLO : Hid (w.heap.size ≤ cb) := show w.heap.size ≤ cb from by omega
  have HM : Hid (∀ q, Calls Try.prog 35 #[.pointer (some ⟨rb, 0, none⟩), .int .i64 s] (X.drewN q) fun e w' => e = .returned (.bool true) ∧ ∃ q', w' = (X.drewN q).drewN q') := fun q => by
    have := mine_any s (X.drewN q) ((h.more hbX).more (below_drewN (Below.refl _ _) q)) hok
    rw [show decide (mine a.me a.rep a.ses s) = true from by simpa using hmi] at this
    exact this
  have k0 : ∀ q, (X.drewN q).cell? ⟨cb, 0, none⟩ = some (.int .i64 s) := fun q => Blk.cell HCB.out 0
  have k1 : ∀ q, (X.drewN q).cell? ⟨cb, 1, none⟩ = some (.int .i64 i) := fun q => Blk.cell HCB.out 1
  clear h hok hbX
  have l0 : ∀ q, (X.drewN q).cell? ⟨rb, 4 + k, none⟩ = some (.int .i64 (r.la s)) := fun q => ((HBX.out).cell (p := ⟨rb, 4 + k, none⟩) (World.block_lt_of_cell? w _ l0')).trans l0'
  clear l0'
  have HPN : Hid (∀ q, Calls Try.prog 37 #[.pointer (some ⟨rb, 0, none⟩), .agg #[.int .i64 s, .int .i64 i]] (X.drewN q) fun e w' => e = .returned (.int .i64 (-1)) ∧ Below X.heap.size (X.drewN q) w') := fun q => by
    have := rpend_any (s, i) (X.drewN q) (HRX.out.more (below_drewN (Below.refl _ _) q)) HLN.out
    rw [HPV.out] at this
    exact this
  go_enter Try.func34, Try.ntmps34
  go_wp2_with fail
  rw [← hX, ← hcb]
  clear hX hcb
  refine Calls.mono (HM.out 0) ?_
  rintro e w1 ⟨rfl, q, hw1⟩
  rw [World.drewN_drewN] at hw1
  obtain ⟨q1, hq1⟩ : ∃ q1, q1 = 0 + q := ⟨_, rfl⟩
  rw [← hq1] at hw1
  clear hq1 HM
  subst hw1
  go_wp2_with fail
  rename_i K7 hK7
  try rw [show ∀ a : Act, a.put none undef = a from fun _ => rfl]
  refine wp_region_mix (fun wq => ∃ q : Nat, wq = X.drewN q) (fun i => i == 99) 99 (by kernel_rfl) rfl (by kernel_rfl) (by kernel_rfl) (by kernel_rfl) ?_
  refine withFrP (N := 63) rfl ?_
  intro f0 F0 hff
  have e0 : f0 0 = Value.pointer (some ⟨rb, 0, none⟩) := hff 0
  have e3 : f0 3 = Value.pointer (some ⟨cb, 0, none⟩) := hff 3
  clear hff
  have HCC : (fun wq => ∃ q : Nat, wq = X.drewN q) (({ (X.drewN q1) with drawn := (X.drewN q1).drawn + 1 } : World)) := ⟨q1 + 1, rfl⟩
  refine lyp F0 rfl HCC rfl (by omega) (wanted_none rfl) (v := Value.pointer (some ⟨cb, 0, none⟩)) (fun wr hwr => by simp only [execOp, (F0.eval 3 (by omega)).trans (show _ = Value.pointer (some ⟨cb, 0, none⟩) from by simp [upd, e0, e3])]; simp [go_sem]) fun F1 => ?_
  refine lyp F1 rfl HCC rfl (by omega) (wanted_none rfl) (v := Value.pointer (some ⟨cb, 1, none⟩)) (fun wr hwr => by simp only [execOp, (F1.eval 15 (by omega)).trans (show _ = Value.pointer (some ⟨cb, 0, none⟩) from by simp [upd, e0, e3])]; simp [go_sem]) fun F2 => ?_
  refine lyp F2 rfl HCC rfl (by omega) (wanted_none rfl) (v := Value.int .i64 i) (fun wr hwr => by obtain ⟨q, rfl⟩ := hwr; simp only [execOp, (F2.eval 16 (by omega)).trans (show _ = Value.pointer (some ⟨cb, 1, none⟩) from by simp [upd, e0, e3])]; simp [go_sem, k1]) fun F3 => ?_
  refine lyp F3 rfl HCC rfl (by omega) (wanted_none rfl) (v := Value.pointer (some ⟨rb, 0, none⟩)) (fun wr hwr => by simp only [execOp, (F3.eval 0 (by omega)).trans (show _ = Value.pointer (some ⟨rb, 0, none⟩) from by simp [upd, e0, e3])]; first | rfl | simp [go_sem]) fun F4 => ?_
  refine lyp F4 rfl HCC rfl (by omega) (wanted_none rfl) (v := Value.pointer (some ⟨cb, 0, none⟩)) (fun wr hwr => by simp only [execOp, (F4.eval 3 (by omega)).trans (show _ = Value.pointer (some ⟨cb, 0, none⟩) from by simp [upd, e0, e3])]; simp [go_sem]) fun F5 => ?_
  refine lyp F5 rfl HCC rfl (by omega) (wanted_none rfl) (v := Value.pointer (some ⟨cb, 0, none⟩)) (fun wr hwr => by simp only [execOp, (F5.eval 19 (by omega)).trans (show _ = Value.pointer (some ⟨cb, 0, none⟩) from by simp [upd, e0, e3])]; simp [go_sem]) fun F6 => ?_
  refine lyp F6 rfl HCC rfl (by omega) (wanted_none rfl) (v := Value.int .i64 ((k : Nat) : Int)) (fun wr hwr => by obtain ⟨q, rfl⟩ := hwr; simp only [execOp, (F6.eval 20 (by omega)).trans (show _ = Value.pointer (some ⟨cb, 0, none⟩) from by simp [upd, e0, e3])]; simp [go_sem, k0]; first | done | omega | exact HKS.out) fun F7 => ?_
  refine lyp F7 rfl HCC rfl (by omega) (wanted_none rfl) (v := Value.pointer (some ⟨rb, 0, none⟩)) (fun wr hwr => by simp only [execOp, (F7.eval 18 (by omega)).trans (show _ = Value.pointer (some ⟨rb, 0, none⟩) from by simp [upd, e0, e3])]; simp [go_sem]) fun F8 => ?_
  refine lyp F8 rfl HCC rfl (by omega) (wanted_none rfl) (v := Value.pointer (some ⟨rb, 4, none⟩)) (fun wr hwr => by simp only [execOp, (F8.eval 22 (by omega)).trans (show _ = Value.pointer (some ⟨rb, 0, none⟩) from by simp [upd, e0, e3])]; simp [go_sem]) fun F9 => ?_
  refine lyp F9 rfl HCC rfl (by omega) (wanted_none rfl) (v := Value.pointer (some ⟨rb, 4 + k, none⟩)) (fun wr hwr => by simp only [execOp, (F9.eval 23 (by omega)).trans (show _ = Value.pointer (some ⟨rb, 4, none⟩) from by simp [upd, e0, e3]), (F9.eval 21 (by omega)).trans (show _ = Value.int .i64 ((k : Nat) : Int) from by simp [upd, e0, e3])]; simp only [Sem.run_bind, Sem.run_pure, Result.andThen_ok, idx44 wr rb 4 k hk]; try rfl) fun F10 => ?_
  refine lyp F10 rfl HCC rfl (by omega) (wanted_none rfl) (v := Value.int .i64 (r.la s)) (fun wr hwr => by obtain ⟨q, rfl⟩ := hwr; simp only [execOp, (F10.eval 24 (by omega)).trans (show _ = Value.pointer (some ⟨rb, 4 + k, none⟩) from by simp [upd, e0, e3])]; simp [go_sem, l0]) fun F11 => ?_
  refine lyp F11 rfl HCC rfl (by omega) (wanted_none rfl) (v := Value.bool false) (fun wr hwr => by simp only [execOp, (F11.eval 17 (by omega)).trans (show _ = Value.int .i64 i from by simp [upd, e0, e3]), (F11.eval 25 (by omega)).trans (show _ = Value.int .i64 (r.la s) from by simp [upd, e0, e3])]; simp [go_sem, Act.eval]; omega) fun F12 => ?_
  refine ⟨fun _ => HCC, ?_⟩
  refine hK7 _ _ ?_
  clear F0 F1 F2 F3 F4 F5 F6 F7 F8 F9 F10 F11 F12 e0 e3 HCC
  simp only [Act.put, List.setIfInBounds_toArray, List.set_cons_succ, List.set_cons_zero]
  obtain ⟨q2, hq2⟩ : ∃ q2, q2 = q1 + 1 := ⟨_, rfl⟩
  rw [show ({ X.drewN q1 with drawn := (X.drewN q1).drawn + 1 } : World) = X.drewN q2 from by rw [hq2]; rfl]
  clear hq2
  go_wp2_with fail
  refine Calls.mono (HPN.out q2) ?_
  rintro e V ⟨rfl, hbv⟩
  have hbv2 : Below X.heap.size X V := (below_drewN (Below.refl _ _) q2).trans hbv
  have HCV : Hid (Blk V cb #[.int .i64 s, .int .i64 i, .int .i64 ee, .int .i64 vv] 36) := show Blk V cb #[.int .i64 s, .int .i64 i, .int .i64 ee, .int .i64 vv] 36 from Blk.below HCB.out hbv2 (Blk.lt HCB.out)
  have HRV : Hid (RC a B rb r V) := HRX.out.more hbv2
  have HBV : Hid (Below w.heap.size w V) := HBX.out.trans (hbv2.mono HBX.out.size)
  clear hbv hbv2 HPN
  go_wp2_with fail
  go_ret
  exact ⟨rfl, HRV.out, HBV.out⟩
end Go.Proofs.Ytadfmnlkfcigoaa
