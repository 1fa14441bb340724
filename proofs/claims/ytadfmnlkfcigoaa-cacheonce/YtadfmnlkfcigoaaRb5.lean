import Derived.Test.YtadfmnlkfcigoaaRf2
namespace Go.Proofs.Ytadfmnlkfcigoaa
open Go.RowKit Go.PlainAid Go.MapKept
set_option linter.unusedVariables false
set_option linter.unusedSimpArgs false
set_option maxRecDepth 100000 in
set_option maxHeartbeats 3200000 in
theorem rbegin_stale {a : CA} {B rb : Nat} {r : RS} (s i : Int) (w : World) (h : RC a B rb r w) (hok : COk a) (hmi : mine a.me a.rep a.ses s) (hi : 1 ≤ i ∧ i ≤ 1099511627776) (hla : 0 ≤ r.la s ∧ r.la s ≤ 1099511627776) (ho : i ≤ r.la s) (hol : r.op.length ≤ 100000) (hpl : r.rp.length ≤ 100000) (hin : isIn (s, i) r.op = false) (hkf : keptF a.room s i r.rp = none) :
    Calls Try.prog 33 #[.pointer (some ⟨rb, 0, none⟩), .agg #[.int .i64 s, .int .i64 i]] w fun e w' => e = .returned (.tuple #[.agg (rpA zrp), .bool false, .int .i64 130]) ∧ RC a B rb r w' ∧ Below w.heap.size w w' := by
  have HOL : Hid (r.op.length ≤ 100000) := hol
  have HPL : Hid (r.rp.length ≤ 100000) := hpl
  have HKF : Hid _ := hkf
  clear hkf hpl
  obtain ⟨rr, hrr⟩ : ∃ rr, rr = zrp := ⟨_, rfl⟩
  have HPV : Hid (idxOf (s, i) r.op = -1) := show idxOf (s, i) r.op = -1 from by unfold idxOf; rw [if_neg (by simpa [isIn] using hin)]
  obtain ⟨k, hks⟩ : ∃ k : Nat, s = k := ⟨s.toNat, by have := hmi.1; omega⟩
  have hk : k < 64 := by have := hmi.2.1; have := hok.ses; omega
  have l0' := h.lac k hk
  rw [← hks] at l0'
  have HKS : Hid (s = k) := hks
  clear hks
  obtain ⟨X, hX⟩ : ∃ X, X = ((w.alloc (.cells #[.int .i64 s, .int .i64 i] 32)).alloc (.cells #[.int .i64 0, .int .i64 0, .int .i64 0, .int .i64 0] 36)).alloc (.cells #[.int .i64 0, .int .i64 0, .int .i64 0, .int .i64 0] 36) := ⟨_, rfl⟩
  obtain ⟨cb, hcb⟩ : ∃ cb, cb = w.heap.size := ⟨_, rfl⟩
  obtain ⟨rs, hrs⟩ : ∃ rs, rs = w.heap.size + 1 := ⟨_, rfl⟩
  obtain ⟨nb, hnb⟩ : ∃ nb, nb = w.heap.size + 1 + 1 := ⟨_, rfl⟩
  have g1 : Below w.heap.size w (w.alloc (.cells #[.int .i64 s, .int .i64 i] 32)) := (Below.refl _ _).alloc (Nat.le_refl _) _
  have g2 : Below w.heap.size w ((w.alloc (.cells #[.int .i64 s, .int .i64 i] 32)).alloc (.cells #[.int .i64 0, .int .i64 0, .int .i64 0, .int .i64 0] 36)) := g1.alloc g1.size _
  have hbX : Below w.heap.size w X := by rw [hX]; exact g2.alloc g2.size _
  have HCB : Hid (Blk X cb #[.int .i64 s, .int .i64 i] 32) := show Blk X cb #[.int .i64 s, .int .i64 i] 32 from by
    rw [hX, hcb]
    exact blk_alloc (blk_alloc (heap_alloc_new w _) _) _
  have HRS : Hid (Blk X rs #[.int .i64 0, .int .i64 0, .int .i64 0, .int .i64 0] 36) := show Blk X rs #[.int .i64 0, .int .i64 0, .int .i64 0, .int .i64 0] 36 from by
    rw [hX, hrs]
    have := heap_alloc_new (w.alloc (.cells #[.int .i64 s, .int .i64 i] 32)) (.cells #[.int .i64 0, .int .i64 0, .int .i64 0, .int .i64 0] 36)
    rw [World.size_alloc] at this
    exact blk_alloc this _
  have HNB : Hid (Blk X nb #[.int .i64 0, .int .i64 0, .int .i64 0, .int .i64 0] 36) := show Blk X nb #[.int .i64 0, .int .i64 0, .int .i64 0, .int .i64 0] 36 from by
    rw [hX, hnb]
    have := heap_alloc_new ((w.alloc (.cells #[.int .i64 s, .int .i64 i] 32)).alloc (.cells #[.int .i64 0, .int .i64 0, .int .i64 0, .int .i64 0] 36)) (.cells #[.int .i64 0, .int .i64 0, .int .i64 0, .int .i64 0] 36)
    rw [World.size_alloc, World.size_alloc] at this
    exact this
  have HBX : Hid (Below w.heap.size w X) := hbX
  have HRX : Hid (RC a B rb r X) := h.more hbX
  have HRW : Hid (RC a B rb r w) := h
  have HLO : Hid (w.heap.size ≤ cb ∧ w.heap.size ≤ rs ∧ w.heap.size ≤ nb ∧ cb ≠ rs) := ⟨by omega, by omega, by omega, by omega⟩
  have HM : Hid (∀ q, Calls Try.prog 35 #[.pointer (some ⟨rb, 0, none⟩), .int .i64 s] (X.drewN q) fun e w' => e = .returned (.bool true) ∧ ∃ q', w' = (X.drewN q).drewN q') := fun q => by
    have := mine_any s (X.drewN q) ((h.more hbX).more (below_drewN (Below.refl _ _) q)) hok
    rw [show decide (mine a.me a.rep a.ses s) = true from by simpa using hmi] at this
    exact this
  have hz := zero36
  have k0 : ∀ q, (X.drewN q).cell? ⟨cb, 0, none⟩ = some (.int .i64 s) := fun q => Blk.cell HCB.out 0
  have k1 : ∀ q, (X.drewN q).cell? ⟨cb, 1, none⟩ = some (.int .i64 i) := fun q => Blk.cell HCB.out 1
  have kk0 : X.cell? ⟨cb, 0, none⟩ = some (.int .i64 s) := Blk.cell HCB.out 0
  rw [hX, hcb] at kk0
  have n0 : ∀ q, (X.drewN q).cell? ⟨nb, 0, none⟩ = some (.int .i64 0) := fun q => Blk.cell HNB.out 0
  have z0 : ∀ q, (X.drewN q).cell? ⟨rs, 0, none⟩ = some (.int .i64 0) := fun q => Blk.cell HRS.out 0
  have y0 : ∀ q, (X.drewN q).frozen? ⟨rs, 0, none⟩ = false := fun q => Blk.frozen HRS.out 0
  have n1 : ∀ q, (X.drewN q).cell? ⟨nb, 1, none⟩ = some (.int .i64 0) := fun q => Blk.cell HNB.out 1
  have z1 : ∀ q, (X.drewN q).cell? ⟨rs, 1, none⟩ = some (.int .i64 0) := fun q => Blk.cell HRS.out 1
  have y1 : ∀ q, (X.drewN q).frozen? ⟨rs, 1, none⟩ = false := fun q => Blk.frozen HRS.out 1
  have n2 : ∀ q, (X.drewN q).cell? ⟨nb, 2, none⟩ = some (.int .i64 0) := fun q => Blk.cell HNB.out 2
  have z2 : ∀ q, (X.drewN q).cell? ⟨rs, 2, none⟩ = some (.int .i64 0) := fun q => Blk.cell HRS.out 2
  have y2 : ∀ q, (X.drewN q).frozen? ⟨rs, 2, none⟩ = false := fun q => Blk.frozen HRS.out 2
  have n3 : ∀ q, (X.drewN q).cell? ⟨nb, 3, none⟩ = some (.int .i64 0) := fun q => Blk.cell HNB.out 3
  have z3 : ∀ q, (X.drewN q).cell? ⟨rs, 3, none⟩ = some (.int .i64 0) := fun q => Blk.cell HRS.out 3
  have y3 : ∀ q, (X.drewN q).frozen? ⟨rs, 3, none⟩ = false := fun q => Blk.frozen HRS.out 3
  clear h hok g1 g2 hbX
  have l0 : ∀ q, (X.drewN q).cell? ⟨rb, 4 + k, none⟩ = some (.int .i64 (r.la s)) := fun q => ((HBX.out).cell (p := ⟨rb, 4 + k, none⟩) (World.block_lt_of_cell? w _ l0')).trans l0'
  clear l0'
  have HNR : Hid (∀ k, r.own rb k → k ≠ rs) := fun k hk e => by have := HRW.out.lt hk; have := HLO.out.2.1; omega
  have hi1 : ¬ i < 1 := by omega
  have hi2 : ¬ 1099511627776 < i := by omega
  have ho2 : ¬ r.la s + 1 < i := by omega
  have ho3 : ¬ i = r.la s + 1 := by omega
  have HPN : Hid (∀ q, Calls Try.prog 37 #[.pointer (some ⟨rb, 0, none⟩), .agg #[.int .i64 s, .int .i64 i]] (X.drewN q) fun e w' => e = .returned (.int .i64 (-1)) ∧ Below X.heap.size (X.drewN q) w') := fun q => by
    have := rpend_any (s, i) (X.drewN q) (HRX.out.more (below_drewN (Below.refl _ _) q)) HOL.out
    rw [HPV.out] at this
    exact this
  have HKP : Hid (∀ W, RC a B rb r W → Calls Try.prog 38 #[.pointer (some ⟨rb, 0, none⟩), .agg #[.int .i64 s, .int .i64 i]] W fun e w' => e = .returned (.tuple #[.agg #[.int .i64 rr.s, .int .i64 rr.i, .int .i64 rr.e, .int .i64 rr.v], .bool false]) ∧ Below W.heap.size W w') := fun W hW => by
    have := rkept_any s i W hW HPL.out (hW.lt (Or.inl rfl))
    rw [HKF.out] at this
    rw [hrr]; exact this
  clear hin hol hrr
  go_enter Try.func33, Try.ntmps33
  go_wp2_with fail
  rw [← hX, ← hnb, ← hrs, ← hcb]
  clear hX hnb hrs hcb kk0
  refine Calls.mono (HM.out 0) ?_
  rintro e w1 ⟨rfl, q, hw1⟩
  rw [World.drewN_drewN] at hw1
  obtain ⟨q1, hq1⟩ : ∃ q1, q1 = 0 + q := ⟨_, rfl⟩
  rw [← hq1] at hw1
  clear hq1 HM
  subst hw1
  go_wp2_with fail
  rename_i K7 hK7
  try rw [show ∀ a : Act, a.put none undef = a from fun _ => rfl]
  refine wp_region_mix (fun wq => ∃ q : Nat, wq = X.drewN q) (fun i => i == 99) 99 (by kernel_rfl) rfl (by kernel_rfl) (by kernel_rfl) (by kernel_rfl) ?_
  refine withFrP (N := 80) rfl ?_
  intro f0 F0 hff
  have e0 : f0 0 = Value.pointer (some ⟨rb, 0, none⟩) := hff 0
  have e3 : f0 3 = Value.pointer (some ⟨cb, 0, none⟩) := hff 3
  clear hff
  have HCC : (fun wq => ∃ q : Nat, wq = X.drewN q) (({ (X.drewN q1) with drawn := (X.drewN q1).drawn + 1 } : World)) := ⟨q1 + 1, rfl⟩
  refine lyp F0 rfl HCC rfl (by omega) (wanted_none rfl) (v := Value.pointer (some ⟨rb, 0, none⟩)) (fun wr hwr => by simp only [execOp, (F0.eval 0 (by omega)).trans (show _ = Value.pointer (some ⟨rb, 0, none⟩) from by simp [upd, e0, e3])]; first | rfl | simp [go_sem]) fun F1 => ?_
  refine lyp F1 rfl HCC rfl (by omega) (wanted_none rfl) (v := Value.pointer (some ⟨cb, 0, none⟩)) (fun wr hwr => by simp only [execOp, (F1.eval 3 (by omega)).trans (show _ = Value.pointer (some ⟨cb, 0, none⟩) from by simp [upd, e0, e3])]; simp [go_sem]) fun F2 => ?_
  refine lyp F2 rfl HCC rfl (by omega) (wanted_none rfl) (v := Value.int .i64 ((k : Nat) : Int)) (fun wr hwr => by obtain ⟨q, rfl⟩ := hwr; simp only [execOp, (F2.eval 30 (by omega)).trans (show _ = Value.pointer (some ⟨cb, 0, none⟩) from by simp [upd, e0, e3])]; simp [go_sem, k0]; first | done | omega | exact HKS.out) fun F3 => ?_
  refine lyp F3 rfl HCC rfl (by omega) (wanted_none rfl) (v := Value.pointer (some ⟨rb, 0, none⟩)) (fun wr hwr => by simp only [execOp, (F3.eval 29 (by omega)).trans (show _ = Value.pointer (some ⟨rb, 0, none⟩) from by simp [upd, e0, e3])]; simp [go_sem]) fun F4 => ?_
  refine lyp F4 rfl HCC rfl (by omega) (wanted_none rfl) (v := Value.pointer (some ⟨rb, 4, none⟩)) (fun wr hwr => by simp only [execOp, (F4.eval 32 (by omega)).trans (show _ = Value.pointer (some ⟨rb, 0, none⟩) from by simp [upd, e0, e3])]; simp [go_sem]) fun F5 => ?_
  refine lyp F5 rfl HCC rfl (by omega) (wanted_none rfl) (v := Value.pointer (some ⟨rb, 4 + k, none⟩)) (fun wr hwr => by simp only [execOp, (F5.eval 33 (by omega)).trans (show _ = Value.pointer (some ⟨rb, 4, none⟩) from by simp [upd, e0, e3]), (F5.eval 31 (by omega)).trans (show _ = Value.int .i64 ((k : Nat) : Int) from by simp [upd, e0, e3])]; simp only [Sem.run_bind, Sem.run_pure, Result.andThen_ok, idx44 wr rb 4 k hk]; try rfl) fun F6 => ?_
  refine lyp F6 rfl HCC rfl (by omega) (wanted_none rfl) (v := Value.int .i64 (r.la s)) (fun wr hwr => by obtain ⟨q, rfl⟩ := hwr; simp only [execOp, (F6.eval 34 (by omega)).trans (show _ = Value.pointer (some ⟨rb, 4 + k, none⟩) from by simp [upd, e0, e3])]; simp [go_sem, l0]) fun F7 => ?_
  refine lyp F7 rfl HCC rfl (by omega) (wanted_none rfl) (v := Value.int .i64 (r.la s)) (fun wr hwr => by simp only [execOp, (F7.eval 35 (by omega)).trans (show _ = Value.int .i64 (r.la s) from by simp [upd, e0, e3])]; first | rfl | simp [go_sem]) fun F8 => ?_
  refine ⟨fun _ => HCC, ?_⟩
  refine hK7 _ _ ?_
  clear F0 F1 F2 F3 F4 F5 F6 F7 F8 e0 e3 HCC
  simp only [Act.put, List.setIfInBounds_toArray, List.set_cons_succ, List.set_cons_zero]
  obtain ⟨q2, hq2⟩ : ∃ q2, q2 = q1 + 1 := ⟨_, rfl⟩
  rw [show ({ X.drewN q1 with drawn := (X.drewN q1).drawn + 1 } : World) = X.drewN q2 from by rw [hq2]; rfl]
  clear hq2
  go_wp2_with fail
  refine Calls.mono (HPN.out q2) ?_
  rintro e V ⟨rfl, hbv⟩
  have hbv2 : Below X.heap.size X V := (below_drewN (Below.refl _ _) q2).trans hbv
  have HRSV : Hid (Blk V rs #[.int .i64 0, .int .i64 0, .int .i64 0, .int .i64 0] 36) := show Blk V rs #[.int .i64 0, .int .i64 0, .int .i64 0, .int .i64 0] 36 from Blk.below HRS.out hbv2 (Blk.lt HRS.out)
  have HNBV : Hid (Blk V nb #[.int .i64 0, .int .i64 0, .int .i64 0, .int .i64 0] 36) := show Blk V nb #[.int .i64 0, .int .i64 0, .int .i64 0, .int .i64 0] 36 from Blk.below HNB.out hbv2 (Blk.lt HNB.out)
  have HCBV : Hid (Blk V cb #[.int .i64 s, .int .i64 i] 32) := show Blk V cb #[.int .i64 s, .int .i64 i] 32 from Blk.below HCB.out hbv2 (Blk.lt HCB.out)
  have HRV : Hid (RC a B rb r V) := HRX.out.more hbv2
  have HBV : Hid (Below w.heap.size w V) := HBX.out.trans (hbv2.mono HBX.out.size)
  clear hbv hbv2 n0 z0 y0 n1 z1 y1 n2 z2 y2 n3 z3 y3
  have n0 : V.cell? ⟨nb, 0, none⟩ = some (.int .i64 0) := Blk.cell HNBV.out 0
  have z0 : V.cell? ⟨rs, 0, none⟩ = some (.int .i64 0) := Blk.cell HRSV.out 0
  have y0 : V.frozen? ⟨rs, 0, none⟩ = false := Blk.frozen HRSV.out 0
  have n1 : V.cell? ⟨nb, 1, none⟩ = some (.int .i64 0) := Blk.cell HNBV.out 1
  have z1 : V.cell? ⟨rs, 1, none⟩ = some (.int .i64 0) := Blk.cell HRSV.out 1
  have y1 : V.frozen? ⟨rs, 1, none⟩ = false := Blk.frozen HRSV.out 1
  have n2 : V.cell? ⟨nb, 2, none⟩ = some (.int .i64 0) := Blk.cell HNBV.out 2
  have z2 : V.cell? ⟨rs, 2, none⟩ = some (.int .i64 0) := Blk.cell HRSV.out 2
  have y2 : V.frozen? ⟨rs, 2, none⟩ = false := Blk.frozen HRSV.out 2
  have n3 : V.cell? ⟨nb, 3, none⟩ = some (.int .i64 0) := Blk.cell HNBV.out 3
  have z3 : V.cell? ⟨rs, 3, none⟩ = some (.int .i64 0) := Blk.cell HRSV.out 3
  have y3 : V.frozen? ⟨rs, 3, none⟩ = false := Blk.frozen HRSV.out 3
  have v0 : V.cell? ⟨cb, 0, none⟩ = some (.int .i64 s) := Blk.cell HCBV.out 0
  have v1 : V.cell? ⟨cb, 1, none⟩ = some (.int .i64 i) := Blk.cell HCBV.out 1
  go_wp2_with fail
  refine Calls.mono (HKP.out _ HRV.out) ?_
  rintro e U ⟨rfl, hbu⟩
  have HRSU : Hid (Blk U rs #[.int .i64 0, .int .i64 0, .int .i64 0, .int .i64 0] 36) := show Blk U rs #[.int .i64 0, .int .i64 0, .int .i64 0, .int .i64 0] 36 from Blk.below HRSV.out hbu (Blk.lt HRSV.out)
  have HNBU : Hid (Blk U nb #[.int .i64 0, .int .i64 0, .int .i64 0, .int .i64 0] 36) := show Blk U nb #[.int .i64 0, .int .i64 0, .int .i64 0, .int .i64 0] 36 from Blk.below HNBV.out hbu (Blk.lt HNBV.out)
  have HRU : Hid (RC a B rb r U) := HRV.out.more hbu
  have HBU : Hid (Below w.heap.size w U) := HBV.out.trans (hbu.mono HBV.out.size)
  clear HRSV HNBV HRV HBV HCBV hbu n0 z0 y0 n1 z1 y1 n2 z2 y2 n3 z3 y3
  have n0 : ∀ o, (U.alloc o).cell? ⟨nb, 0, none⟩ = some (.int .i64 0) := fun o => (blk_alloc HNBU.out o).cell 0
  have z0 : ∀ o, (U.alloc o).cell? ⟨rs, 0, none⟩ = some (.int .i64 0) := fun o => (blk_alloc HRSU.out o).cell 0
  have y0 : ∀ o, (U.alloc o).frozen? ⟨rs, 0, none⟩ = false := fun o => (blk_alloc HRSU.out o).frozen 0
  have n1 : ∀ o, (U.alloc o).cell? ⟨nb, 1, none⟩ = some (.int .i64 0) := fun o => (blk_alloc HNBU.out o).cell 1
  have z1 : ∀ o, (U.alloc o).cell? ⟨rs, 1, none⟩ = some (.int .i64 0) := fun o => (blk_alloc HRSU.out o).cell 1
  have y1 : ∀ o, (U.alloc o).frozen? ⟨rs, 1, none⟩ = false := fun o => (blk_alloc HRSU.out o).frozen 1
  have n2 : ∀ o, (U.alloc o).cell? ⟨nb, 2, none⟩ = some (.int .i64 0) := fun o => (blk_alloc HNBU.out o).cell 2
  have z2 : ∀ o, (U.alloc o).cell? ⟨rs, 2, none⟩ = some (.int .i64 0) := fun o => (blk_alloc HRSU.out o).cell 2
  have y2 : ∀ o, (U.alloc o).frozen? ⟨rs, 2, none⟩ = false := fun o => (blk_alloc HRSU.out o).frozen 2
  have n3 : ∀ o, (U.alloc o).cell? ⟨nb, 3, none⟩ = some (.int .i64 0) := fun o => (blk_alloc HNBU.out o).cell 3
  have z3 : ∀ o, (U.alloc o).cell? ⟨rs, 3, none⟩ = some (.int .i64 0) := fun o => (blk_alloc HRSU.out o).cell 3
  have y3 : ∀ o, (U.alloc o).frozen? ⟨rs, 3, none⟩ = false := fun o => (blk_alloc HRSU.out o).frozen 3
  clear HKP HPN
  go_wp2_with fail
  obtain ⟨b4, c4, l4⟩ := blk4 (show Blk (U.alloc (.cells #[.int .i64 rr.s, .int .i64 rr.i, .int .i64 rr.e, .int .i64 rr.v] 36)) rs #[.int .i64 0, .int .i64 0, .int .i64 0, .int .i64 0] 36 from blk_alloc HRSU.out _) (.int .i64 0) (.int .i64 0) (.int .i64 0) (.int .i64 0)
  refine bodyPost_ret (results_cell3 Try.results33 _ _ rs _ _ _ rfl rfl rfl b4 (by kernel_rfl)) rfl ?_
  exact ⟨rfl, (HRU.out.more ((Below.refl _ _).alloc (Nat.le_refl _) _)).keep c4 (fun k hk e => HNR.out k hk e), (HBU.out.alloc HBU.out.size _).trans ⟨l4.os, l4.tape, l4.output, l4.size, fun k hk => l4.block k (by have := HLO.out.2.1; omega)⟩⟩
end Go.Proofs.Ytadfmnlkfcigoaa
