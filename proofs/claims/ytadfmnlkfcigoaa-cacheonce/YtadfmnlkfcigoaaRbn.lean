import Derived.Test.YtadfmnlkfcigoaaRf3
namespace Go.Proofs.Ytadfmnlkfcigoaa
open Go.RowKit Go.PlainAid Go.MapKept
set_option linter.unusedVariables false
set_option linter.unusedSimpArgs false
set_option maxRecDepth 100000 in
set_option maxHeartbeats 3200000 in
theorem rbegin_new {a : CA} {B rb : Nat} {r : RS} (s i : Int) (w : World) (h : RC a B rb r w) (hok : COk a) (hmi : mine a.me a.rep a.ses s) (hi : 1 ≤ i ∧ i ≤ 1099511627776) (hla : 0 ≤ r.la s ∧ r.la s ≤ 1099511627776) (ho : i = r.la s + 1) (hol : r.op.length ≤ 100000) :
    Calls Try.prog 33 #[.pointer (some ⟨rb, 0, none⟩), .agg #[.int .i64 s, .int .i64 i]] w fun e w' => e = .returned (.tuple #[.agg (rpA zrp), .bool false, .int .i64 0]) ∧ ∃ vo, RStep a B rb r { r with la := fun t => if t = s then i else r.la t, vo := vo, op := r.op ++ [(s, i)] } w w' := by
  have HLN : Hid (r.op.length ≤ 100000) := hol
  clear hol
  obtain ⟨k, hks⟩ : ∃ k : Nat, s = k := ⟨s.toNat, by have := hmi.1; omega⟩
  have hk : k < 64 := by have := hmi.2.1; have := hok.ses; omega
  have l0' := h.lac k hk
  rw [← hks] at l0'
  have HKS : Hid (s = k) := hks
  clear hks
  obtain ⟨X, hX⟩ : ∃ X, X = ((w.alloc (.cells #[.int .i64 s, .int .i64 i] 32)).alloc (.cells #[.int .i64 0, .int .i64 0, .int .i64 0, .int .i64 0] 36)).alloc (.cells #[.int .i64 0, .int .i64 0, .int .i64 0, .int .i64 0] 36) := ⟨_, rfl⟩
  obtain ⟨cb, hcb⟩ : ∃ cb, cb = w.heap.size := ⟨_, rfl⟩
  obtain ⟨rs, hrs⟩ : ∃ rs, rs = w.heap.size + 1 := ⟨_, rfl⟩
  obtain ⟨nb, hnb⟩ : ∃ nb, nb = w.heap.size + 1 + 1 := ⟨_, rfl⟩
  have g1 : Below w.heap.size w (w.alloc (.cells #[.int .i64 s, .int .i64 i] 32)) := (Below.refl _ _).alloc (Nat.le_refl _) _
  have g2 : Below w.heap.size w ((w.alloc (.cells #[.int .i64 s, .int .i64 i] 32)).alloc (.cells #[.int .i64 0, .int .i64 0, .int .i64 0, .int .i64 0] 36)) := g1.alloc g1.size _
  have hbX : Below w.heap.size w X := by rw [hX]; exact g2.alloc g2.size _
  have HCB : Hid (Blk X cb #[.int .i64 s, .int .i64 i] 32) := show Blk X cb #[.int .i64 s, .int .i64 i] 32 from by
    rw [hX, hcb]
    exact blk_alloc (blk_alloc (heap_alloc_new w _) _) _
  have HRS : Hid (Blk X rs #[.int .i64 0, .int .i64 0, .int .i64 0, .int .i64 0] 36) := show Blk X rs #[.int .i64 0, .int .i64 0, .int .i64 0, .int .i64 0] 36 from by
    rw [hX, hrs]
    have := heap_alloc_new (w.alloc (.cells #[.int .i64 s, .int .i64 i] 32)) (.cells #[.int .i64 0, .int .i64 0, .int .i64 0, .int .i64 0] 36)
    rw [World.size_alloc] at this
    exact blk_alloc this _
  have HNB : Hid (Blk X nb #[.int .i64 0, .int .i64 0, .int .i64 0, .int .i64 0] 36) := show Blk X nb #[.int .i64 0, .int .i64 0, .int .i64 0, .int .i64 0] 36 from by
    rw [hX, hnb]
    have := heap_alloc_new ((w.alloc (.cells #[.int .i64 s, .int .i64 i] 32)).alloc (.cells #[.int .i64 0, .int .i64 0, .int .i64 0, .int .i64 0] 36)) (.cells #[.int .i64 0, .int .i64 0, .int .i64 0, .int .i64 0] 36)
    rw [World.size_alloc, World.size_alloc] at this
    exact this
  have HBX : Hid (Below w.heap.size w X) := hbX
  have HRX : Hid (RC a B rb r X) := h.more hbX
  have HRW : Hid (RC a B rb r w) := h
  have HLO : Hid (w.heap.size ≤ cb ∧ w.heap.size ≤ rs ∧ w.heap.size ≤ nb ∧ cb ≠ rs) := ⟨by omega, by omega, by omega, by omega⟩
  have HM : Hid (∀ q, Calls Try.prog 35 #[.pointer (some ⟨rb, 0, none⟩), .int .i64 s] (X.drewN q) fun e w' => e = .returned (.bool true) ∧ ∃ q', w' = (X.drewN q).drewN q') := fun q => by
    have := mine_any s (X.drewN q) ((h.more hbX).more (below_drewN (Below.refl _ _) q)) hok
    rw [show decide (mine a.me a.rep a.ses s) = true from by simpa using hmi] at this
    exact this
  have hz := zero36
  have k0 : ∀ q, (X.drewN q).cell? ⟨cb, 0, none⟩ = some (.int .i64 s) := fun q => Blk.cell HCB.out 0
  have k1 : ∀ q, (X.drewN q).cell? ⟨cb, 1, none⟩ = some (.int .i64 i) := fun q => Blk.cell HCB.out 1
  have kk0 : X.cell? ⟨cb, 0, none⟩ = some (.int .i64 s) := Blk.cell HCB.out 0
  rw [hX, hcb] at kk0
  have n0 : ∀ q, (X.drewN q).cell? ⟨nb, 0, none⟩ = some (.int .i64 0) := fun q => Blk.cell HNB.out 0
  have z0 : ∀ q, (X.drewN q).cell? ⟨rs, 0, none⟩ = some (.int .i64 0) := fun q => Blk.cell HRS.out 0
  have y0 : ∀ q, (X.drewN q).frozen? ⟨rs, 0, none⟩ = false := fun q => Blk.frozen HRS.out 0
  have n1 : ∀ q, (X.drewN q).cell? ⟨nb, 1, none⟩ = some (.int .i64 0) := fun q => Blk.cell HNB.out 1
  have z1 : ∀ q, (X.drewN q).cell? ⟨rs, 1, none⟩ = some (.int .i64 0) := fun q => Blk.cell HRS.out 1
  have y1 : ∀ q, (X.drewN q).frozen? ⟨rs, 1, none⟩ = false := fun q => Blk.frozen HRS.out 1
  have n2 : ∀ q, (X.drewN q).cell? ⟨nb, 2, none⟩ = some (.int .i64 0) := fun q => Blk.cell HNB.out 2
  have z2 : ∀ q, (X.drewN q).cell? ⟨rs, 2, none⟩ = some (.int .i64 0) := fun q => Blk.cell HRS.out 2
  have y2 : ∀ q, (X.drewN q).frozen? ⟨rs, 2, none⟩ = false := fun q => Blk.frozen HRS.out 2
  have n3 : ∀ q, (X.drewN q).cell? ⟨nb, 3, none⟩ = some (.int .i64 0) := fun q => Blk.cell HNB.out 3
  have z3 : ∀ q, (X.drewN q).cell? ⟨rs, 3, none⟩ = some (.int .i64 0) := fun q => Blk.cell HRS.out 3
  have y3 : ∀ q, (X.drewN q).frozen? ⟨rs, 3, none⟩ = false := fun q => Blk.frozen HRS.out 3
  clear h hok g1 g2 hbX
  have l0 : ∀ q, (X.drewN q).cell? ⟨rb, 4 + k, none⟩ = some (.int .i64 (r.la s)) := fun q => ((HBX.out).cell (p := ⟨rb, 4 + k, none⟩) (World.block_lt_of_cell? w _ l0')).trans l0'
  clear l0'
  have HNR : Hid (∀ k, r.own rb k → k ≠ rs) := fun k hk e => by have := HRW.out.lt hk; have := HLO.out.2.1; omega
  have hi1 : ¬ i < 1 := by omega
  have hi2 : ¬ 1099511627776 < i := by omega
  have ho2 : ¬ r.la s + 1 < i := by omega
  have HOI : Hid (i = r.la s + 1) := ho
  clear ho
  have HNO : Hid (∀ k, r.own rb k → k ≠ cb ∧ k ≠ rs ∧ k ≠ nb) := fun k hk => by have := HRW.out.lt hk; have := HLO.out; omega
  go_enter Try.func33, Try.ntmps33
  go_wp2_with fail
  rw [← hX, ← hnb, ← hrs, ← hcb]
  clear hX hnb hrs hcb kk0
  refine Calls.mono (HM.out 0) ?_
  rintro e w1 ⟨rfl, q, hw1⟩
  rw [World.drewN_drewN] at hw1
  obtain ⟨q1, hq1⟩ : ∃ q1, q1 = 0 + q := ⟨_, rfl⟩
  rw [← hq1] at hw1
  clear hq1 HM
  subst hw1
  go_wp2_with fail
  rename_i K7 hK7
  try rw [show ∀ a : Act, a.put none undef = a from fun _ => rfl]
  refine wp_region_mix (fun wq => ∃ q : Nat, wq = X.drewN q) (fun i => i == 99) 99 (by kernel_rfl) rfl (by kernel_rfl) (by kernel_rfl) (by kernel_rfl) ?_
  refine withFrP (N := 80) rfl ?_
  intro f0 F0 hff
  have e0 : f0 0 = Value.pointer (some ⟨rb, 0, none⟩) := hff 0
  have e3 : f0 3 = Value.pointer (some ⟨cb, 0, none⟩) := hff 3
  clear hff
  have HCC : (fun wq => ∃ q : Nat, wq = X.drewN q) (({ (X.drewN q1) with drawn := (X.drewN q1).drawn + 1 } : World)) := ⟨q1 + 1, rfl⟩
  refine lyp F0 rfl HCC rfl (by omega) (wanted_none rfl) (v := Value.pointer (some ⟨rb, 0, none⟩)) (fun wr hwr => by simp only [execOp, (F0.eval 0 (by omega)).trans (show _ = Value.pointer (some ⟨rb, 0, none⟩) from by simp [upd, e0, e3])]; first | rfl | simp [go_sem]) fun F1 => ?_
  refine lyp F1 rfl HCC rfl (by omega) (wanted_none rfl) (v := Value.pointer (some ⟨cb, 0, none⟩)) (fun wr hwr => by simp only [execOp, (F1.eval 3 (by omega)).trans (show _ = Value.pointer (some ⟨cb, 0, none⟩) from by simp [upd, e0, e3])]; simp [go_sem]) fun F2 => ?_
  refine lyp F2 rfl HCC rfl (by omega) (wanted_none rfl) (v := Value.int .i64 ((k : Nat) : Int)) (fun wr hwr => by obtain ⟨q, rfl⟩ := hwr; simp only [execOp, (F2.eval 30 (by omega)).trans (show _ = Value.pointer (some ⟨cb, 0, none⟩) from by simp [upd, e0, e3])]; simp [go_sem, k0]; first | done | omega | exact HKS.out) fun F3 => ?_
  refine lyp F3 rfl HCC rfl (by omega) (wanted_none rfl) (v := Value.pointer (some ⟨rb, 0, none⟩)) (fun wr hwr => by simp only [execOp, (F3.eval 29 (by omega)).trans (show _ = Value.pointer (some ⟨rb, 0, none⟩) from by simp [upd, e0, e3])]; simp [go_sem]) fun F4 => ?_
  refine lyp F4 rfl HCC rfl (by omega) (wanted_none rfl) (v := Value.pointer (some ⟨rb, 4, none⟩)) (fun wr hwr => by simp only [execOp, (F4.eval 32 (by omega)).trans (show _ = Value.pointer (some ⟨rb, 0, none⟩) from by simp [upd, e0, e3])]; simp [go_sem]) fun F5 => ?_
  refine lyp F5 rfl HCC rfl (by omega) (wanted_none rfl) (v := Value.pointer (some ⟨rb, 4 + k, none⟩)) (fun wr hwr => by simp only [execOp, (F5.eval 33 (by omega)).trans (show _ = Value.pointer (some ⟨rb, 4, none⟩) from by simp [upd, e0, e3]), (F5.eval 31 (by omega)).trans (show _ = Value.int .i64 ((k : Nat) : Int) from by simp [upd, e0, e3])]; simp only [Sem.run_bind, Sem.run_pure, Result.andThen_ok, idx44 wr rb 4 k hk]; try rfl) fun F6 => ?_
  refine lyp F6 rfl HCC rfl (by omega) (wanted_none rfl) (v := Value.int .i64 (r.la s)) (fun wr hwr => by obtain ⟨q, rfl⟩ := hwr; simp only [execOp, (F6.eval 34 (by omega)).trans (show _ = Value.pointer (some ⟨rb, 4 + k, none⟩) from by simp [upd, e0, e3])]; simp [go_sem, l0]) fun F7 => ?_
  refine lyp F7 rfl HCC rfl (by omega) (wanted_none rfl) (v := Value.int .i64 (r.la s)) (fun wr hwr => by simp only [execOp, (F7.eval 35 (by omega)).trans (show _ = Value.int .i64 (r.la s) from by simp [upd, e0, e3])]; first | rfl | simp [go_sem]) fun F8 => ?_
  refine ⟨fun _ => HCC, ?_⟩
  refine hK7 _ _ ?_
  clear F0 F1 F2 F3 F4 F5 F6 F7 F8 e0 e3 HCC
  simp only [Act.put, List.setIfInBounds_toArray, List.set_cons_succ, List.set_cons_zero]
  obtain ⟨q2, hq2⟩ : ∃ q2, q2 = q1 + 1 := ⟨_, rfl⟩
  rw [show ({ X.drewN q1 with drawn := (X.drewN q1).drawn + 1 } : World) = X.drewN q2 from by rw [hq2]; rfl]
  clear hq2
  have hoib : (i == r.la s + 1) = true := by simpa using HOI.out
  have lf : ∀ q, (X.drewN q).frozen? ⟨rb, 4 + k, none⟩ = false := fun q => by
    obtain ⟨C, hB, _⟩ := HRX.out.blk
    exact hB.frozen _
  go_wp2_with fail
  try rw [show ∀ a : Act, a.put none undef = a from fun _ => rfl]
  refine wp_region_mix (fun wq => ∃ q : Nat, wq = X.drewN q) (fun i => i == 8) 8 (by kernel_rfl) rfl (by kernel_rfl) (by kernel_rfl) (by kernel_rfl) ?_
  refine withFrP (N := 80) rfl ?_
  intro f0 F0 hff
  have e0 : f0 0 = Value.pointer (some ⟨rb, 0, none⟩) := hff 0
  have e3 : f0 3 = Value.pointer (some ⟨cb, 0, none⟩) := hff 3
  clear hff
  have HCC : (fun wq => ∃ q : Nat, wq = X.drewN q) (({ (X.drewN q2) with drawn := (X.drewN q2).drawn + 1 } : World)) := ⟨q2 + 1, rfl⟩
  refine lyp F0 rfl HCC rfl (by omega) (wanted_none rfl) (v := Value.pointer (some ⟨rb, 0, none⟩)) (fun wr hwr => by simp only [execOp, (F0.eval 0 (by omega)).trans (show _ = Value.pointer (some ⟨rb, 0, none⟩) from by simp [upd, e0, e3])]; first | rfl | simp [go_sem]) fun F1 => ?_
  refine lyp F1 rfl HCC rfl (by omega) (wanted_none rfl) (v := Value.pointer (some ⟨cb, 0, none⟩)) (fun wr hwr => by simp only [execOp, (F1.eval 3 (by omega)).trans (show _ = Value.pointer (some ⟨cb, 0, none⟩) from by simp [upd, e0, e3])]; simp [go_sem]) fun F2 => ?_
  refine lyp F2 rfl HCC rfl (by omega) (wanted_none rfl) (v := Value.int .i64 ((k : Nat) : Int)) (fun wr hwr => by obtain ⟨q, rfl⟩ := hwr; simp only [execOp, (F2.eval 48 (by omega)).trans (show _ = Value.pointer (some ⟨cb, 0, none⟩) from by simp [upd, e0, e3])]; simp [go_sem, k0]; first | done | omega | exact HKS.out) fun F3 => ?_
  refine lyp F3 rfl HCC rfl (by omega) (wanted_none rfl) (v := Value.pointer (some ⟨cb, 1, none⟩)) (fun wr hwr => by simp only [execOp, (F3.eval 3 (by omega)).trans (show _ = Value.pointer (some ⟨cb, 0, none⟩) from by simp [upd, e0, e3])]; simp [go_sem]) fun F4 => ?_
  refine lyp F4 rfl HCC rfl (by omega) (wanted_none rfl) (v := Value.int .i64 i) (fun wr hwr => by obtain ⟨q, rfl⟩ := hwr; simp only [execOp, (F4.eval 50 (by omega)).trans (show _ = Value.pointer (some ⟨cb, 1, none⟩) from by simp [upd, e0, e3])]; simp [go_sem, k1]) fun F5 => ?_
  refine lyp F5 rfl HCC rfl (by omega) (wanted_none rfl) (v := Value.pointer (some ⟨rb, 0, none⟩)) (fun wr hwr => by simp only [execOp, (F5.eval 47 (by omega)).trans (show _ = Value.pointer (some ⟨rb, 0, none⟩) from by simp [upd, e0, e3])]; simp [go_sem]) fun F6 => ?_
  refine lyp F6 rfl HCC rfl (by omega) (wanted_none rfl) (v := Value.pointer (some ⟨rb, 4, none⟩)) (fun wr hwr => by simp only [execOp, (F6.eval 52 (by omega)).trans (show _ = Value.pointer (some ⟨rb, 0, none⟩) from by simp [upd, e0, e3])]; simp [go_sem]) fun F7 => ?_
  refine lyp F7 rfl HCC rfl (by omega) (wanted_none rfl) (v := Value.pointer (some ⟨rb, 4 + k, none⟩)) (fun wr hwr => by simp only [execOp, (F7.eval 53 (by omega)).trans (show _ = Value.pointer (some ⟨rb, 4, none⟩) from by simp [upd, e0, e3]), (F7.eval 49 (by omega)).trans (show _ = Value.int .i64 ((k : Nat) : Int) from by simp [upd, e0, e3])]; simp only [Sem.run_bind, Sem.run_pure, Result.andThen_ok, idx44 wr rb 4 k hk]; try rfl) fun F8 => ?_
  refine lst rfl HCC rfl (wanted_none rfl) (w1 := (X.drewN (q2 + 1)).setCell ⟨rb, 4 + k, none⟩ (.int .i64 i)) (by simp only [execOp, (F8.eval 54 (by omega)).trans (show _ = Value.pointer (some ⟨rb, 4 + k, none⟩) from by simp [upd, e0, e3]), (F8.eval 51 (by omega)).trans (show _ = Value.int .i64 i from by simp [upd, e0, e3])]; rw [show ({ (X.drewN q2) with drawn := (X.drewN q2).drawn + 1 } : World) = X.drewN (q2 + 1) from rfl]; simp [go_sem, l0, lf]) ?_
  refine ⟨fun h => by omega, ?_⟩
  clear F0 F1 F2 F3 F4 F5 F6 F7 F8 e0 e3 HCC
  simp only [Act.put, List.setIfInBounds_toArray, List.set_cons_succ, List.set_cons_zero]
  obtain ⟨Y, hY⟩ : ∃ Y, Y = (X.drewN (q2 + 1)).setCell ⟨rb, 4 + k, none⟩ (.int .i64 i) := ⟨_, rfl⟩
  have hRXq : RC a B rb r (X.drewN (q2 + 1)) := HRX.out.more (below_drewN (Below.refl _ _) _)
  have hRY := hRXq.setLast k hk i
  have hcY := setCell_chg (X.drewN (q2 + 1)) rb (4 + k) (.int .i64 i)
  rw [← hY] at hRY hcY
  have HRY : Hid (RC a B rb { r with la := fun t => if t = k then i else r.la t } Y) := hRY
  have HCY : Hid (Chg (r.own rb) w Y) := (Chg.ofBelow (r.own rb) (below_drewN HBX.out (q2 + 1))).trans hcY (fun j hj e => Or.inl e)
  have HXY : Hid (Blk Y cb #[.int .i64 s, .int .i64 i] 32) := show Blk Y cb #[.int .i64 s, .int .i64 i] 32 from hcY.blk HCB.out (fun e => (HNO.out rb (Or.inl rfl)).1 e.symm)
  have HRSY : Hid (Blk Y rs #[.int .i64 0, .int .i64 0, .int .i64 0, .int .i64 0] 36) := show Blk Y rs #[.int .i64 0, .int .i64 0, .int .i64 0, .int .i64 0] 36 from hcY.blk HRS.out (fun e => (HNO.out rb (Or.inl rfl)).2.1 e.symm)
  have HNBY : Hid (Blk Y nb #[.int .i64 0, .int .i64 0, .int .i64 0, .int .i64 0] 36) := show Blk Y nb #[.int .i64 0, .int .i64 0, .int .i64 0, .int .i64 0] 36 from hcY.blk HNB.out (fun e => (HNO.out rb (Or.inl rfl)).2.2 e.symm)
  obtain ⟨ao, cap, hv, _⟩ := own_slice hRY.ro
  have HWV : Hid (r.vo = .slice ao r.op.length cap) := hv
  have XO : Y.cell? ⟨rb, 68, none⟩ = some (.slice ao r.op.length cap) := by
    have := hRY.cell.2.2.2.2.1
    rw [← hv]
    exact this
  have HRO : Hid (Y.ownsRow B 32 2 (.slice ao r.op.length cap) r.op.length (flatC r.op)) := show Y.ownsRow B 32 2 (.slice ao r.op.length cap) r.op.length (flatC r.op) from by rw [← hv]; exact hRY.ro
  have HLW : Hid (B ≤ Y.heap.size) := show B ≤ Y.heap.size from Nat.le_trans hRY.lo (Nat.le_of_lt (hRY.lt (Or.inl rfl)))
  have HBOX : Hid (¬ (Value.slice ao r.op.length cap).ownBlock = some cb) := fun e => by
    rw [← hv] at e
    exact (HNO.out cb (Or.inr (Or.inl e))).1 rfl
  rw [← hY]
  clear hRXq hRY hcY hv hY l0 lf HRX HCB HRS HNB n0 z0 y0 n1 z1 y1 n2 z2 y2 n3 z3 y3 k0 k1
  go_wp2_with fail
  try rw [show ∀ a : Act, a.put none undef = a from fun _ => rfl]
  refine wp_region_mix (fun wq => wq.cell? ⟨rb, 68, none⟩ = some (.slice ao r.op.length cap) ∧ Blk wq cb #[.int .i64 s, .int .i64 i] 32) (fun i => i == 6 || i == 7 || i == 10) 10 (by kernel_rfl) rfl (by kernel_rfl) (by kernel_rfl) (by kernel_rfl) ?_
  refine withFrP (N := 80) rfl ?_
  intro f0 F0 hff
  have e0 : f0 0 = Value.pointer (some ⟨rb, 0, none⟩) := hff 0
  have e3 : f0 3 = Value.pointer (some ⟨cb, 0, none⟩) := hff 3
  clear hff
  have hBx : Blk (({ Y with drawn := Y.drawn + 1 } : World)) cb #[.int .i64 s, .int .i64 i] 32 := HXY.out
  have HCC : (fun wq => wq.cell? ⟨rb, 68, none⟩ = some (.slice ao r.op.length cap) ∧ Blk wq cb #[.int .i64 s, .int .i64 i] 32) (({ Y with drawn := Y.drawn + 1 } : World)) := ⟨XO, hBx⟩
  have HC1 : (fun wq => wq.cell? ⟨rb, 68, none⟩ = some (.slice ao r.op.length cap) ∧ Blk wq cb #[.int .i64 s, .int .i64 i] 32) ((({ Y with drawn := Y.drawn + 1 } : World)).alloc (.cells #[.int .i64 s, .int .i64 i] 32)) := ⟨cell_alloc (w := ({ Y with drawn := Y.drawn + 1 } : World)) XO _, blk_alloc hBx _⟩
  refine lyp F0 rfl HCC rfl (by omega) (wanted_none rfl) (v := Value.pointer (some ⟨rb, 0, none⟩)) (fun wr hwr => by simp only [execOp, (F0.eval 0 (by omega)).trans (show _ = Value.pointer (some ⟨rb, 0, none⟩) from by simp [upd, e0, e3])]; first | rfl | simp [go_sem]) fun F1 => ?_
  refine lyp F1 rfl HCC rfl (by omega) (wanted_none rfl) (v := Value.pointer (some ⟨rb, 0, none⟩)) (fun wr hwr => by simp only [execOp, (F1.eval 0 (by omega)).trans (show _ = Value.pointer (some ⟨rb, 0, none⟩) from by simp [upd, e0, e3])]; first | rfl | simp [go_sem]) fun F2 => ?_
  refine lyp F2 rfl HCC rfl (by omega) (wanted_none rfl) (v := Value.pointer (some ⟨rb, 0, none⟩)) (fun wr hwr => by simp only [execOp, (F2.eval 56 (by omega)).trans (show _ = Value.pointer (some ⟨rb, 0, none⟩) from by simp [upd, e0, e3])]; simp [go_sem]) fun F3 => ?_
  refine lyp F3 rfl HCC rfl (by omega) (wanted_none rfl) (v := Value.pointer (some ⟨rb, 68, none⟩)) (fun wr hwr => by simp only [execOp, (F3.eval 57 (by omega)).trans (show _ = Value.pointer (some ⟨rb, 0, none⟩) from by simp [upd, e0, e3])]; simp [go_sem]) fun F4 => ?_
  refine lyp F4 rfl HCC rfl (by omega) (wanted_none rfl) (v := Value.slice ao r.op.length cap) (fun wr hwr => by simp only [execOp, (F4.eval 58 (by omega)).trans (show _ = Value.pointer (some ⟨rb, 68, none⟩) from by simp [upd, e0, e3])]; simp [go_sem, hwr.1]) fun F5 => ?_
  refine lyp F5 rfl HCC rfl (by omega) (wanted_none rfl) (v := Value.agg #[.int .i64 s, .int .i64 i]) (fun wr hwr => by simp only [execOp, (F5.eval 3 (by omega)).trans (show _ = Value.pointer (some ⟨cb, 0, none⟩) from by simp [upd, e0, e3])]; simp [go_sem, show wr.cell? ⟨cb, 0, none⟩ = some (.int .i64 s) from hwr.2.cell 0, show wr.cell? ⟨cb, 1, none⟩ = some (.int .i64 i) from hwr.2.cell 1]) fun F6 => ?_
  refine lep F6 rfl HCC rfl (by omega) (wanted_none rfl) (v := Value.slice (some ⟨Y.heap.size, 0, none⟩) 1 1) (w1 := (({ Y with drawn := Y.drawn + 1 } : World)).alloc (.cells #[.int .i64 s, .int .i64 i] 32)) (by simp only [execOp, List.map_toArray, List.map_cons, List.map_nil, (F6.eval 60 (by omega)).trans (show _ = Value.agg #[.int .i64 s, .int .i64 i] from by simp [upd, e0, e3])]; simp [go_sem]) fun F7 => ?_
  obtain ⟨v5, w5, hrun, ho5, hg5⟩ := append_call (w := ({ Y with drawn := Y.drawn + 1 } : World)) (s, i) (show World.ownsRow (({ Y with drawn := Y.drawn + 1 } : World)) B 32 2 (.slice ao r.op.length cap) r.op.length (flatC r.op) from ownsRow_same HRO.out (fun _ _ => rfl)) HLN.out HLW.out
  obtain ⟨ao5, cap5, hv5, _⟩ := own_slice ho5
  subst hv5
  obtain ⟨Cr, hBr, hCr⟩ := HRY.out.blk
  have nk : ∀ (b : Nat) (D : Array Value) (U : TypeId), Blk (({ Y with drawn := Y.drawn + 1 } : World)) b D U → U ≠ 32 → ¬ (Value.slice ao r.op.length cap).ownBlock = some b := fun b D U hB hU e => by
    obtain ⟨cu, hcu⟩ := ownsRow_type HRO.out e
    exact Blk.ne_t (show Blk Y b D U from hB) (show Blk Y b cu 32 from hcu) hU rfl
  have hr5 := hg5.chg.blk (show Blk (({ Y with drawn := Y.drawn + 1 } : World)) rb Cr 87 from hBr) (nk _ _ _ hBr (by decide))
  have hx5 : Blk w5 cb #[.int .i64 s, .int .i64 i] 32 := hg5.chg.blk hBx HBOX.out
  have hz5 : w5.cell? ⟨rb, 68, none⟩ = some (.slice ao r.op.length cap) := by
    have := (hr5.cell 68).trans hCr.c68
    rw [HWV.out] at this
    exact this
  have hf5 := hr5.frozen 68
  have HC5 : (fun wq => wq.cell? ⟨rb, 68, none⟩ = some (.slice ao r.op.length cap) ∧ Blk wq cb #[.int .i64 s, .int .i64 i] 32) w5 := ⟨hz5, hx5⟩
  refine lep F7 rfl HC1 rfl (by omega) (wanted_none rfl) (v := Value.slice ao5 (r.op.length + 1) cap5) (w1 := w5) (by simp only [execOp, resolve, invoke, builtin, List.map_toArray, List.map_cons, List.map_nil, (F7.eval 59 (by omega)).trans (show _ = Value.slice ao r.op.length cap from by simp [upd, e0, e3]), (F7.eval 61 (by omega)).trans (show _ = Value.slice (some ⟨Y.heap.size, 0, none⟩) 1 1 from by simp [upd, e0, e3])]; simp only [Sem.run_bind, Sem.run_pure, Result.andThen_ok, show _ = _ from hrun _]; try rfl) fun F8 => ?_
  refine lyp F8 rfl HC5 rfl (by omega) (wanted_none rfl) (v := Value.pointer (some ⟨rb, 0, none⟩)) (fun wr hwr => by simp only [execOp, (F8.eval 55 (by omega)).trans (show _ = Value.pointer (some ⟨rb, 0, none⟩) from by simp [upd, e0, e3])]; simp [go_sem]) fun F9 => ?_
  refine lyp F9 rfl HC5 rfl (by omega) (wanted_none rfl) (v := Value.pointer (some ⟨rb, 68, none⟩)) (fun wr hwr => by simp only [execOp, (F9.eval 63 (by omega)).trans (show _ = Value.pointer (some ⟨rb, 0, none⟩) from by simp [upd, e0, e3])]; simp [go_sem]) fun F10 => ?_
  refine lst rfl HC5 rfl (wanted_none rfl) (w1 := w5.setCell ⟨rb, 68, none⟩ (.slice ao5 (r.op.length + 1) cap5)) (by simp only [execOp, (F10.eval 64 (by omega)).trans (show _ = Value.pointer (some ⟨rb, 68, none⟩) from by simp [upd, e0, e3]), (F10.eval 62 (by omega)).trans (show _ = Value.slice ao5 (r.op.length + 1) cap5 from by simp [upd, e0, e3])]; simp [go_sem, hf5, hz5]) ?_
  refine ⟨fun h => by omega, ?_⟩
  clear F0 F1 F2 F3 F4 F5 F6 F7 F8 F9 F10 e0 e3 HCC HC1 HC5 hz5 hf5 nk hrun
  simp only [Act.put, List.setIfInBounds_toArray, List.set_cons_succ, List.set_cons_zero]
  have hRE : RC a B rb { r with la := fun t => if t = k then i else r.la t } ({ Y with drawn := Y.drawn + 1 } : World) := HRY.out.more (Below.drew (Below.refl Y.heap.size Y))
  have hst := hRE.setOpen (op' := r.op ++ [(s, i)]) hg5.chg (fun g e hlt => by simp only; rw [HWV.out]; exact e) (by rw [List.length_append]; exact ho5) (fun g e => by simp only; rw [HWV.out]; exact hg5.at' g e)
  obtain ⟨Z, hZ⟩ : ∃ Z, Z = w5.setCell ⟨rb, 68, none⟩ (.slice ao5 (r.op.length + 1) cap5) := ⟨_, rfl⟩
  rw [← hZ] at hst ⊢
  have hOW : ∀ g, RS.own { r with la := fun t => if t = k then i else r.la t } rb g → r.own rb g := fun g hg => hg
  have HRZ : Hid (RStep a B rb r { r with la := fun t => if t = k then i else r.la t, vo := .slice ao5 (r.op.length + 1) cap5, op := r.op ++ [(s, i)] } w Z) := ⟨hst.1, (HCY.out.drewN 1).trans hst.2.1 (fun j hj e => hOW j e), fun g hg => by
    rcases hst.2.2 g hg with h1 | h1
    · exact Or.inl (hOW g h1)
    · exact Or.inr (Nat.le_trans HCY.out.size h1)⟩
  have HRSZ : Hid (Blk Z rs #[.int .i64 0, .int .i64 0, .int .i64 0, .int .i64 0] 36) := show Blk Z rs #[.int .i64 0, .int .i64 0, .int .i64 0, .int .i64 0] 36 from Chg.blk (w := { Y with drawn := Y.drawn + 1 }) hst.2.1 HRSY.out (fun e => (HNO.out rs (hOW _ e)).2.1 rfl)
  have HNBZ : Hid (Blk Z nb #[.int .i64 0, .int .i64 0, .int .i64 0, .int .i64 0] 36) := show Blk Z nb #[.int .i64 0, .int .i64 0, .int .i64 0, .int .i64 0] 36 from Chg.blk (w := { Y with drawn := Y.drawn + 1 }) hst.2.1 HNBY.out (fun e => (HNO.out nb (hOW _ e)).2.2 rfl)
  have HRSN : Hid (¬ RS.own { r with la := fun t => if t = k then i else r.la t, vo := .slice ao5 (r.op.length + 1) cap5, op := r.op ++ [(s, i)] } rb rs) := fun hg => by
    obtain ⟨C1, T1, hT1, ht⟩ := hst.1.typ hg
    rcases hg with e | e | e
    · exact (HNO.out rb (Or.inl rfl)).2.1 e.symm
    · obtain ⟨D, hD⟩ := ownsRow_type hst.1.ro e
      exact Blk.ne_t HRSZ.out (show Blk Z rs D 32 from hD) (by decide) rfl
    · exact (HNO.out rs (Or.inr (Or.inr e))).2.1 rfl
  clear hRE hst hZ hOW ho5 hg5 hr5 hx5 hBx hBr hCr XO HRO HRY HCY HXY HRSY HNBY HBOX
  have n0 : Z.cell? ⟨nb, 0, none⟩ = some (.int .i64 0) := Blk.cell HNBZ.out 0
  have z0 : Z.cell? ⟨rs, 0, none⟩ = some (.int .i64 0) := Blk.cell HRSZ.out 0
  have y0 : Z.frozen? ⟨rs, 0, none⟩ = false := Blk.frozen HRSZ.out 0
  have n1 : Z.cell? ⟨nb, 1, none⟩ = some (.int .i64 0) := Blk.cell HNBZ.out 1
  have z1 : Z.cell? ⟨rs, 1, none⟩ = some (.int .i64 0) := Blk.cell HRSZ.out 1
  have y1 : Z.frozen? ⟨rs, 1, none⟩ = false := Blk.frozen HRSZ.out 1
  have n2 : Z.cell? ⟨nb, 2, none⟩ = some (.int .i64 0) := Blk.cell HNBZ.out 2
  have z2 : Z.cell? ⟨rs, 2, none⟩ = some (.int .i64 0) := Blk.cell HRSZ.out 2
  have y2 : Z.frozen? ⟨rs, 2, none⟩ = false := Blk.frozen HRSZ.out 2
  have n3 : Z.cell? ⟨nb, 3, none⟩ = some (.int .i64 0) := Blk.cell HNBZ.out 3
  have z3 : Z.cell? ⟨rs, 3, none⟩ = some (.int .i64 0) := Blk.cell HRSZ.out 3
  have y3 : Z.frozen? ⟨rs, 3, none⟩ = false := Blk.frozen HRSZ.out 3
  go_wp2_with fail
  obtain ⟨b4, c4, l4⟩ := blk4 (show Blk Z rs #[.int .i64 0, .int .i64 0, .int .i64 0, .int .i64 0] 36 from HRSZ.out) (.int .i64 0) (.int .i64 0) (.int .i64 0) (.int .i64 0)
  refine bodyPost_ret (results_cell3 Try.results33 _ _ rs _ _ _ rfl rfl rfl b4 (by kernel_rfl)) rfl ?_
  have hRZ := HRZ.out
  have hSN := HRSN.out
  rw [← HKS.out] at hRZ hSN
  refine ⟨rfl, .slice ao5 (r.op.length + 1) cap5, hRZ.rc.keep c4 (fun g hg e => ?_), hRZ.chg.trans c4 (fun j hj e => by have := HLO.out.2.1; omega), hRZ.new⟩
  subst e
  exact hSN hg
end Go.Proofs.Ytadfmnlkfcigoaa
