import Derived.Test.YtadfmnlkfcigoaaRf3
namespace Go.Proofs.Ytadfmnlkfcigoaa
open Go.RowKit Go.PlainAid Go.MapKept
set_option linter.unusedVariables false
set_option linter.unusedSimpArgs false
set_option maxRecDepth 100000 in
set_option maxHeartbeats 3200000 in
theorem rend_ok {a : CA} {B rb : Nat} {r : RS} (s i ee vv : Int) (w : World) (h : RC a B rb r w) (hok : COk a) (hmi : mine a.me a.rep a.ses s) (ho : i ≤ r.la s) (hol : r.op.length ≤ 100000) (hpl : r.rp.length ≤ 100000) (hin : isIn (s, i) r.op = true) :
    Calls Try.prog 34 #[.pointer (some ⟨rb, 0, none⟩), .agg #[.int .i64 s, .int .i64 i, .int .i64 ee, .int .i64 vv]] w fun e w' => e = .returned (.int .i64 0) ∧ ∃ vo vr, RStep a B rb r { r with vo := vo, vr := vr, op := r.op.erase (s, i), rp := r.rp ++ [⟨s, i, ee, vv⟩] } w w' := by
  have HLN : Hid (r.op.length ≤ 100000) := hol
  have HLR : Hid (r.rp.length ≤ 100000) := hpl
  have hmem : (s, i) ∈ r.op := by simpa [isIn] using hin
  obtain ⟨p, hp⟩ : ∃ p : Nat, p = r.op.idxOf (s, i) := ⟨_, rfl⟩
  have hpl2 : p < r.op.length := by rw [hp]; exact List.idxOf_lt_length_of_mem hmem
  have HPV : Hid (idxOf (s, i) r.op = (p : Nat)) := show idxOf (s, i) r.op = (p : Nat) from by unfold idxOf; rw [if_pos hmem, hp]
  have HER : Hid (r.op.erase (s, i) = r.op.take p ++ r.op.drop (p + 1)) := show r.op.erase (s, i) = r.op.take p ++ r.op.drop (p + 1) from by
    rw [List.erase_eq_eraseIdx_of_idxOf hp.symm, List.eraseIdx_eq_take_drop_succ]
  have hp9 : p < 100000 := by omega
  have HNO : Hid (∀ k, r.own rb k → k ≠ w.heap.size) := fun k hk => by have := h.lt hk; omega
  clear hin hol hpl hmem hp
  obtain ⟨k, hks⟩ : ∃ k : Nat, s = k := ⟨s.toNat, by have := hmi.1; omega⟩
  have hk : k < 64 := by have := hmi.2.1; have := hok.ses; omega
  have l0' := h.lac k hk
  rw [← hks] at l0'
  have HKS : Hid (s = k) := hks
  clear hks
  obtain ⟨X, hX⟩ : ∃ X, X = w.alloc (.cells #[.int .i64 s, .int .i64 i, .int .i64 ee, .int .i64 vv] 36) := ⟨_, rfl⟩
  obtain ⟨cb, hcb⟩ : ∃ cb, cb = w.heap.size := ⟨_, rfl⟩
  have hbX : Below w.heap.size w X := by rw [hX]; exact (Below.refl _ _).alloc (Nat.le_refl _) _
  have HCB : Hid (Blk X cb #[.int .i64 s, .int .i64 i, .int .i64 ee, .int .i64 vv] 36) := show Blk X cb #[.int .i64 s, .int .i64 i, .int .i64 ee, .int .i64 vv] 36 from by rw [hX, hcb]; exact heap_alloc_new w _
  have HBX : Hid (Below w.heap.size w X) := hbX
  have HRX : Hid (RC a B rb r X) := h.more hbX
  have HRW : Hid (RC a B rb r w) := h
  have HLO : Hid (w.heap.size ≤ cb) := show w.heap.size ≤ cb from by omega
  have HM : Hid (∀ q, Calls Try.prog 35 #[.pointer (some ⟨rb, 0, none⟩), .int .i64 s] (X.drewN q) fun e w' => e = .returned (.bool true) ∧ ∃ q', w' = (X.drewN q).drewN q') := fun q => by
    have := mine_any s (X.drewN q) ((h.more hbX).more (below_drewN (Below.refl _ _) q)) hok
    rw [show decide (mine a.me a.rep a.ses s) = true from by simpa using hmi] at this
    exact this
  have k0 : ∀ q, (X.drewN q).cell? ⟨cb, 0, none⟩ = some (.int .i64 s) := fun q => Blk.cell HCB.out 0
  have k1 : ∀ q, (X.drewN q).cell? ⟨cb, 1, none⟩ = some (.int .i64 i) := fun q => Blk.cell HCB.out 1
  clear h hok hbX
  have HNC : Hid (∀ k, r.own rb k → k ≠ cb) := fun k hk => by have := HNO.out k hk; omega
  have l0 : ∀ q, (X.drewN q).cell? ⟨rb, 4 + k, none⟩ = some (.int .i64 (r.la s)) := fun q => ((HBX.out).cell (p := ⟨rb, 4 + k, none⟩) (World.block_lt_of_cell? w _ l0')).trans l0'
  clear l0'
  have HPN : Hid (∀ q, Calls Try.prog 37 #[.pointer (some ⟨rb, 0, none⟩), .agg #[.int .i64 s, .int .i64 i]] (X.drewN q) fun e w' => e = .returned (.int .i64 (p : Nat)) ∧ Below X.heap.size (X.drewN q) w') := fun q => by
    have := rpend_any (s, i) (X.drewN q) (HRX.out.more (below_drewN (Below.refl _ _) q)) HLN.out
    rw [HPV.out] at this
    exact this
  go_enter Try.func34, Try.ntmps34
  go_wp2_with fail
  rw [← hX, ← hcb]
  clear hX hcb
  refine Calls.mono (HM.out 0) ?_
  rintro e w1 ⟨rfl, q, hw1⟩
  rw [World.drewN_drewN] at hw1
  obtain ⟨q1, hq1⟩ : ∃ q1, q1 = 0 + q := ⟨_, rfl⟩
  rw [← hq1] at hw1
  clear hq1 HM
  subst hw1
  go_wp2_with fail
  rename_i K7 hK7
  try rw [show ∀ a : Act, a.put none undef = a from fun _ => rfl]
  refine wp_region_mix (fun wq => ∃ q : Nat, wq = X.drewN q) (fun i => i == 99) 99 (by kernel_rfl) rfl (by kernel_rfl) (by kernel_rfl) (by kernel_rfl) ?_
  refine withFrP (N := 63) rfl ?_
  intro f0 F0 hff
  have e0 : f0 0 = Value.pointer (some ⟨rb, 0, none⟩) := hff 0
  have e3 : f0 3 = Value.pointer (some ⟨cb, 0, none⟩) := hff 3
  clear hff
  have HCC : (fun wq => ∃ q : Nat, wq = X.drewN q) (({ (X.drewN q1) with drawn := (X.drewN q1).drawn + 1 } : World)) := ⟨q1 + 1, rfl⟩
  refine lyp F0 rfl HCC rfl (by omega) (wanted_none rfl) (v := Value.pointer (some ⟨cb, 0, none⟩)) (fun wr hwr => by simp only [execOp, (F0.eval 3 (by omega)).trans (show _ = Value.pointer (some ⟨cb, 0, none⟩) from by simp [upd, e0, e3])]; simp [go_sem]) fun F1 => ?_
  refine lyp F1 rfl HCC rfl (by omega) (wanted_none rfl) (v := Value.pointer (some ⟨cb, 1, none⟩)) (fun wr hwr => by simp only [execOp, (F1.eval 15 (by omega)).trans (show _ = Value.pointer (some ⟨cb, 0, none⟩) from by simp [upd, e0, e3])]; simp [go_sem]) fun F2 => ?_
  refine lyp F2 rfl HCC rfl (by omega) (wanted_none rfl) (v := Value.int .i64 i) (fun wr hwr => by obtain ⟨q, rfl⟩ := hwr; simp only [execOp, (F2.eval 16 (by omega)).trans (show _ = Value.pointer (some ⟨cb, 1, none⟩) from by simp [upd, e0, e3])]; simp [go_sem, k1]) fun F3 => ?_
  refine lyp F3 rfl HCC rfl (by omega) (wanted_none rfl) (v := Value.pointer (some ⟨rb, 0, none⟩)) (fun wr hwr => by simp only [execOp, (F3.eval 0 (by omega)).trans (show _ = Value.pointer (some ⟨rb, 0, none⟩) from by simp [upd, e0, e3])]; first | rfl | simp [go_sem]) fun F4 => ?_
  refine lyp F4 rfl HCC rfl (by omega) (wanted_none rfl) (v := Value.pointer (some ⟨cb, 0, none⟩)) (fun wr hwr => by simp only [execOp, (F4.eval 3 (by omega)).trans (show _ = Value.pointer (some ⟨cb, 0, none⟩) from by simp [upd, e0, e3])]; simp [go_sem]) fun F5 => ?_
  refine lyp F5 rfl HCC rfl (by omega) (wanted_none rfl) (v := Value.pointer (some ⟨cb, 0, none⟩)) (fun wr hwr => by simp only [execOp, (F5.eval 19 (by omega)).trans (show _ = Value.pointer (some ⟨cb, 0, none⟩) from by simp [upd, e0, e3])]; simp [go_sem]) fun F6 => ?_
  refine lyp F6 rfl HCC rfl (by omega) (wanted_none rfl) (v := Value.int .i64 ((k : Nat) : Int)) (fun wr hwr => by obtain ⟨q, rfl⟩ := hwr; simp only [execOp, (F6.eval 20 (by omega)).trans (show _ = Value.pointer (some ⟨cb, 0, none⟩) from by simp [upd, e0, e3])]; simp [go_sem, k0]; first | done | omega | exact HKS.out) fun F7 => ?_
  refine lyp F7 rfl HCC rfl (by omega) (wanted_none rfl) (v := Value.pointer (some ⟨rb, 0, none⟩)) (fun wr hwr => by simp only [execOp, (F7.eval 18 (by omega)).trans (show _ = Value.pointer (some ⟨rb, 0, none⟩) from by simp [upd, e0, e3])]; simp [go_sem]) fun F8 => ?_
  refine lyp F8 rfl HCC rfl (by omega) (wanted_none rfl) (v := Value.pointer (some ⟨rb, 4, none⟩)) (fun wr hwr => by simp only [execOp, (F8.eval 22 (by omega)).trans (show _ = Value.pointer (some ⟨rb, 0, none⟩) from by simp [upd, e0, e3])]; simp [go_sem]) fun F9 => ?_
  refine lyp F9 rfl HCC rfl (by omega) (wanted_none rfl) (v := Value.pointer (some ⟨rb, 4 + k, none⟩)) (fun wr hwr => by simp only [execOp, (F9.eval 23 (by omega)).trans (show _ = Value.pointer (some ⟨rb, 4, none⟩) from by simp [upd, e0, e3]), (F9.eval 21 (by omega)).trans (show _ = Value.int .i64 ((k : Nat) : Int) from by simp [upd, e0, e3])]; simp only [Sem.run_bind, Sem.run_pure, Result.andThen_ok, idx44 wr rb 4 k hk]; try rfl) fun F10 => ?_
  refine lyp F10 rfl HCC rfl (by omega) (wanted_none rfl) (v := Value.int .i64 (r.la s)) (fun wr hwr => by obtain ⟨q, rfl⟩ := hwr; simp only [execOp, (F10.eval 24 (by omega)).trans (show _ = Value.pointer (some ⟨rb, 4 + k, none⟩) from by simp [upd, e0, e3])]; simp [go_sem, l0]) fun F11 => ?_
  refine lyp F11 rfl HCC rfl (by omega) (wanted_none rfl) (v := Value.bool false) (fun wr hwr => by simp only [execOp, (F11.eval 17 (by omega)).trans (show _ = Value.int .i64 i from by simp [upd, e0, e3]), (F11.eval 25 (by omega)).trans (show _ = Value.int .i64 (r.la s) from by simp [upd, e0, e3])]; simp [go_sem, Act.eval]; omega) fun F12 => ?_
  refine ⟨fun _ => HCC, ?_⟩
  refine hK7 _ _ ?_
  clear F0 F1 F2 F3 F4 F5 F6 F7 F8 F9 F10 F11 F12 e0 e3 HCC
  simp only [Act.put, List.setIfInBounds_toArray, List.set_cons_succ, List.set_cons_zero]
  obtain ⟨q2, hq2⟩ : ∃ q2, q2 = q1 + 1 := ⟨_, rfl⟩
  rw [show ({ X.drewN q1 with drawn := (X.drewN q1).drawn + 1 } : World) = X.drewN q2 from by rw [hq2]; rfl]
  clear hq2
  go_wp2_with fail
  refine Calls.mono (HPN.out q2) ?_
  rintro e V ⟨rfl, hbv⟩
  have hbv2 : Below X.heap.size X V := (below_drewN (Below.refl _ _) q2).trans hbv
  have HCV : Hid (Blk V cb #[.int .i64 s, .int .i64 i, .int .i64 ee, .int .i64 vv] 36) := show Blk V cb #[.int .i64 s, .int .i64 i, .int .i64 ee, .int .i64 vv] 36 from Blk.below HCB.out hbv2 (Blk.lt HCB.out)
  have HRV : Hid (RC a B rb r V) := HRX.out.more hbv2
  have HBV : Hid (Below w.heap.size w V) := HBX.out.trans (hbv2.mono HBX.out.size)
  clear hbv hbv2 HPN
  have hn9 : r.op.length ≤ 100000 := HLN.out
  obtain ⟨ao, cap, hvo, hcap, _, hrd⟩ := own_read HRV.out.ro
  obtain ⟨g, rfl, _, _, _⟩ := hrd (by omega)
  have hrow := HRV.out.ro
  rw [hvo] at hrow
  have HVO : Hid (r.vo = .slice (some ⟨g, 0, none⟩) r.op.length cap) := hvo
  have v68 : V.cell? ⟨rb, 68, none⟩ = some (.slice (some ⟨g, 0, none⟩) r.op.length cap) := by rw [← hvo]; exact HRV.out.cell.2.2.2.2.1
  have hlow : B ≤ V.heap.size := Nat.le_trans HRV.out.lo (Nat.le_of_lt (HRV.out.lt (Or.inl rfl)))
  obtain ⟨v1, w1, hr1, ho1, hg1⟩ := app_rows 79 32 (.agg #[.int .i64 0, .int .i64 0]) 2 16 Try.underlying79 info32 rfl (by decide) (by decide) (World.ownsRow_nil V B 32 2) (ao := some ⟨g, 0, none⟩) (m := p) (cap := cap) (ys := flatC (r.op.take p)) (by rw [flatC_length, List.length_take]; congr 1; omega) (fun e => by cases e) (fun ad had j u hu => by
    cases had
    have hl2 : (flatC (r.op.take p)) = (flatC r.op).take (p * 2) := (flat_take _ 2 (fun _ => rfl) r.op p).symm
    rw [hl2] at hu
    have hj := (List.getElem?_eq_some_iff.1 hu).1
    rw [List.length_take] at hj
    rw [List.getElem?_take_of_lt (by omega)] at hu
    exact hrow.cells (g := g) rfl j u hu) (fun u hu => by simp [flatC] at hu; obtain ⟨_, _, _, rfl | rfl⟩ := hu <;> rfl) (by omega) hlow
  simp only [Nat.zero_add, List.nil_append] at ho1
  obtain ⟨ao1, cap1, hv1, _⟩ := own_slice ho1
  subst hv1
  have hb1 : Below V.heap.size V w1 := hg1.chg.below (Nat.le_refl _) (fun k e => by cases e)
  have HR1 : Hid (RC a B rb r w1) := HRV.out.more hb1
  have HC1 : Hid (Blk w1 cb #[.int .i64 s, .int .i64 i, .int .i64 ee, .int .i64 vv] 36) := show Blk w1 cb #[.int .i64 s, .int .i64 i, .int .i64 ee, .int .i64 vv] 36 from Blk.below HCV.out hb1 (Blk.lt HCV.out)
  have HB1 : Hid (Below w.heap.size w w1) := HBV.out.trans (hb1.mono HBV.out.size)
  have hnew1 : ∀ b, (Value.slice ao1 p cap1).ownBlock = some b → V.heap.size ≤ b := fun b e => by
    rcases hg1.at' b e with h | h
    · cases h
    · exact h
  have w68 : w1.cell? ⟨rb, 68, none⟩ = some (.slice (some ⟨g, 0, none⟩) r.op.length cap) := by rw [← hvo]; exact HR1.out.cell.2.2.2.2.1
  have hrow1 : w1.ownsRow B 32 2 (.slice (some ⟨g, 0, none⟩) r.op.length cap) r.op.length (flatC r.op) := by rw [← hvo]; exact HR1.out.ro
  obtain ⟨ad2, had2⟩ : ∃ ad2 : Addr, ad2 = if cap = p + 1 then ⟨g, 0, none⟩ else ⟨g, (p + 1) * 2, none⟩ := ⟨_, rfl⟩
  have hif : (if cap = p + 1 then some (⟨g, 0, none⟩ : Addr) else some ⟨g, (p + 1) * 2, none⟩) = some ad2 := by rw [had2]; split <;> rfl
  obtain ⟨v2, w2, hr2, ho2, hg2⟩ := app_rows 79 32 (.agg #[.int .i64 0, .int .i64 0]) 2 16 Try.underlying79 info32 rfl (by decide) (by decide) ho1 (ao := some ad2) (m := r.op.length - (p + 1)) (cap := cap - (p + 1)) (ys := flatC (r.op.drop (p + 1))) (by rw [flatC_length, List.length_drop]) (fun e => by cases e) (fun ad had j u hu => by
    cases had
    have hl2 : (flatC (r.op.drop (p + 1))) = (flatC r.op).drop ((p + 1) * 2) := (flat_drop _ 2 (fun _ => rfl) r.op (p + 1)).symm
    rw [hl2, List.getElem?_drop] at hu
    by_cases hc : cap = p + 1
    · have := (List.getElem?_eq_some_iff.1 hu).1
      rw [flatC_length] at this
      omega
    · have := hrow1.cells (g := g) rfl _ u hu
      rw [addr_add, Nat.zero_add] at this
      rw [had2, if_neg hc, addr_add]
      exact this) (fun u hu => by simp [flatC] at hu; obtain ⟨_, _, _, rfl | rfl⟩ := hu <;> rfl) (by omega) (Nat.le_trans hlow hb1.size)
  obtain ⟨ao2, cap2, hv2, _⟩ := own_slice ho2
  subst hv2
  have hlen2 : p + (r.op.length - (p + 1)) = (r.op.erase (s, i)).length := by rw [HER.out, List.length_append, List.length_take, List.length_drop]; omega
  have hA2 : Chg (fun k => V.heap.size ≤ k) V w2 := (Chg.ofBelow _ hb1).trans hg2.chg (fun j hj e => hnew1 j e)
  have hst := HRV.out.setOpen (v5 := .slice ao2 (p + (r.op.length - (p + 1))) cap2) (op' := r.op.erase (s, i)) hA2 (fun k e hlt => absurd e (by omega)) (by rw [← hlen2, HER.out, flatC_append]; exact ho2) (fun k e => by
    rcases hg2.at' k e with h | h
    · exact Or.inr (hnew1 k h)
    · exact Or.inr (Nat.le_trans hb1.size h))
  obtain ⟨Cr, hBr, hCr⟩ := HRV.out.blk
  have hBr2 : Blk w2 rb Cr 87 := hA2.blk hBr (by have := hBr.lt; omega)
  have f68 : w2.frozen? ⟨rb, 68, none⟩ = false := hBr2.frozen 68
  have x68 : w2.cell? ⟨rb, 68, none⟩ = some (.slice (some ⟨g, 0, none⟩) r.op.length cap) := by rw [← hvo]; exact (hBr2.cell 68).trans hCr.c68
  obtain ⟨Y, hY⟩ : ∃ Y, Y = w2.setCell ⟨rb, 68, none⟩ (.slice ao2 (p + (r.op.length - (p + 1))) cap2) := ⟨_, rfl⟩
  rw [← hY] at hst
  obtain ⟨r1, hr1d⟩ : ∃ r1 : RS, r1 = { r with vo := .slice ao2 (p + (r.op.length - (p + 1))) cap2, op := r.op.erase (s, i) } := ⟨_, rfl⟩
  rw [← hr1d] at hst
  have HRY : Hid (RC a B rb r1 Y) := hst.1
  have HGY : Hid (Chg (r.own rb) w Y) := (Chg.ofBelow (r.own rb) HBV.out).trans hst.2.1 (fun j hj e => e)
  have HNY : Hid (∀ k, r1.own rb k → r.own rb k ∨ w.heap.size ≤ k) := fun k hk => by
    rcases hst.2.2 k hk with h | h
    · exact Or.inl h
    · exact Or.inr (Nat.le_trans HBV.out.size h)
  have HXY : Hid (Blk Y cb #[.int .i64 s, .int .i64 i, .int .i64 ee, .int .i64 vv] 36) := show Blk Y cb #[.int .i64 s, .int .i64 i, .int .i64 ee, .int .i64 vv] 36 from hst.2.1.blk HCV.out (fun e => HNC.out cb e rfl)
  have hrp1 : r1.rp = r.rp ∧ r1.vr = r.vr ∧ r1.la = r.la ∧ r1.op = r.op.erase (s, i) := by rw [hr1d]; exact ⟨rfl, rfl, rfl, rfl⟩
  obtain ⟨ao, capr, hvr, _⟩ := own_slice HRY.out.rr
  have hwq : IntKind.i64.wrap ((p : Int) + 1) = (p : Int) + 1 := by rw [IntKind.wrap_i64]; omega
  have hle1 : ¬ cap < p := by omega
  have hqc : p ≤ cap := by omega
  have hql : p ≤ r.op.length := by omega
  have hq1 : p + 1 ≤ r.op.length := by omega
  have HRUN1 : Hid _ := hr1
  have HRUN2 : Hid _ := hr2
  have HRPS : Hid (r1.rp = r.rp ∧ r1.vr = r.vr ∧ r1.la = r.la ∧ r1.op = r.op.erase (s, i)) := hrp1
  have HWV : Hid (r1.vr = .slice ao r.rp.length capr) := show r1.vr = .slice ao r.rp.length capr from by rw [← hrp1.1]; exact hvr
  have HRO : Hid (Y.ownsRow B 36 4 (.slice ao r.rp.length capr) r.rp.length (flatR r.rp)) := show Y.ownsRow B 36 4 (.slice ao r.rp.length capr) r.rp.length (flatR r.rp) from by rw [← HWV.out, ← hrp1.1]; exact HRY.out.rr
  have XO : Y.cell? ⟨rb, 69, none⟩ = some (.slice ao r.rp.length capr) := by rw [← HWV.out]; exact HRY.out.cell.2.2.2.2.2
  have HLW : Hid (B ≤ Y.heap.size) := show B ≤ Y.heap.size from Nat.le_trans HRY.out.lo (Nat.le_of_lt (HRY.out.lt (Or.inl rfl)))
  have HBOX : Hid (¬ (Value.slice ao r.rp.length capr).ownBlock = some cb) := fun e => by
    rw [← HWV.out, hrp1.2.1] at e
    exact HNC.out cb (Or.inr (Or.inr e)) rfl
  clear HLN
  have HLN : Hid (r.rp.length ≤ 100000) := HLR.out
  clear hr1 hr2 ho1 ho2 hg1 hg2 hb1 hnew1 hrow hrow1 had2 hlen2 hA2 hst hBr hCr hBr2 hr1d hrp1 hvr hvo hrd hlow
  go_wp2_with (at_builtin; first | refine wpList_runs rfl _ _ 79 rfl rfl rfl HRUN1.out ?_ | refine wpList_runs rfl _ _ 79 rfl rfl rfl HRUN2.out ?_)
  rw [← hY]
  clear hY f68 x68 w68 v68
  try rw [show ∀ a : Act, a.put none undef = a from fun _ => rfl]
  refine wp_region_mix (fun wq => wq.cell? ⟨rb, 69, none⟩ = some (.slice ao r.rp.length capr) ∧ Blk wq cb #[.int .i64 s, .int .i64 i, .int .i64 ee, .int .i64 vv] 36) (fun i => i == 6 || i == 7 || i == 10) 10 (by kernel_rfl) rfl (by kernel_rfl) (by kernel_rfl) (by kernel_rfl) ?_
  refine withFrP (N := 63) rfl ?_
  intro f0 F0 hff
  have e0 : f0 0 = Value.pointer (some ⟨rb, 0, none⟩) := hff 0
  have e3 : f0 3 = Value.pointer (some ⟨cb, 0, none⟩) := hff 3
  clear hff
  have hBx : Blk (({ Y with drawn := Y.drawn + 1 } : World)) cb #[.int .i64 s, .int .i64 i, .int .i64 ee, .int .i64 vv] 36 := HXY.out
  have HCC : (fun wq => wq.cell? ⟨rb, 69, none⟩ = some (.slice ao r.rp.length capr) ∧ Blk wq cb #[.int .i64 s, .int .i64 i, .int .i64 ee, .int .i64 vv] 36) (({ Y with drawn := Y.drawn + 1 } : World)) := ⟨XO, hBx⟩
  have HC1 : (fun wq => wq.cell? ⟨rb, 69, none⟩ = some (.slice ao r.rp.length capr) ∧ Blk wq cb #[.int .i64 s, .int .i64 i, .int .i64 ee, .int .i64 vv] 36) ((({ Y with drawn := Y.drawn + 1 } : World)).alloc (.cells #[.int .i64 s, .int .i64 i, .int .i64 ee, .int .i64 vv] 36)) := ⟨cell_alloc (w := ({ Y with drawn := Y.drawn + 1 } : World)) XO _, blk_alloc hBx _⟩
  refine lyp F0 rfl HCC rfl (by omega) (wanted_none rfl) (v := Value.pointer (some ⟨rb, 0, none⟩)) (fun wr hwr => by simp only [execOp, (F0.eval 0 (by omega)).trans (show _ = Value.pointer (some ⟨rb, 0, none⟩) from by simp [upd, e0, e3])]; first | rfl | simp [go_sem]) fun F1 => ?_
  refine lyp F1 rfl HCC rfl (by omega) (wanted_none rfl) (v := Value.pointer (some ⟨rb, 0, none⟩)) (fun wr hwr => by simp only [execOp, (F1.eval 0 (by omega)).trans (show _ = Value.pointer (some ⟨rb, 0, none⟩) from by simp [upd, e0, e3])]; first | rfl | simp [go_sem]) fun F2 => ?_
  refine lyp F2 rfl HCC rfl (by omega) (wanted_none rfl) (v := Value.pointer (some ⟨rb, 0, none⟩)) (fun wr hwr => by simp only [execOp, (F2.eval 54 (by omega)).trans (show _ = Value.pointer (some ⟨rb, 0, none⟩) from by simp [upd, e0, e3])]; simp [go_sem]) fun F3 => ?_
  refine lyp F3 rfl HCC rfl (by omega) (wanted_none rfl) (v := Value.pointer (some ⟨rb, 69, none⟩)) (fun wr hwr => by simp only [execOp, (F3.eval 55 (by omega)).trans (show _ = Value.pointer (some ⟨rb, 0, none⟩) from by simp [upd, e0, e3])]; simp [go_sem]) fun F4 => ?_
  refine lyp F4 rfl HCC rfl (by omega) (wanted_none rfl) (v := Value.slice ao r.rp.length capr) (fun wr hwr => by simp only [execOp, (F4.eval 56 (by omega)).trans (show _ = Value.pointer (some ⟨rb, 69, none⟩) from by simp [upd, e0, e3])]; simp [go_sem, hwr.1]) fun F5 => ?_
  refine lyp F5 rfl HCC rfl (by omega) (wanted_none rfl) (v := Value.agg #[.int .i64 s, .int .i64 i, .int .i64 ee, .int .i64 vv]) (fun wr hwr => by simp only [execOp, (F5.eval 3 (by omega)).trans (show _ = Value.pointer (some ⟨cb, 0, none⟩) from by simp [upd, e0, e3])]; simp [go_sem, show wr.cell? ⟨cb, 0, none⟩ = some (.int .i64 s) from hwr.2.cell 0, show wr.cell? ⟨cb, 1, none⟩ = some (.int .i64 i) from hwr.2.cell 1, show wr.cell? ⟨cb, 2, none⟩ = some (.int .i64 ee) from hwr.2.cell 2, show wr.cell? ⟨cb, 3, none⟩ = some (.int .i64 vv) from hwr.2.cell 3]) fun F6 => ?_
  refine lep F6 rfl HCC rfl (by omega) (wanted_none rfl) (v := Value.slice (some ⟨Y.heap.size, 0, none⟩) 1 1) (w1 := (({ Y with drawn := Y.drawn + 1 } : World)).alloc (.cells #[.int .i64 s, .int .i64 i, .int .i64 ee, .int .i64 vv] 36)) (by simp only [execOp, List.map_toArray, List.map_cons, List.map_nil, (F6.eval 58 (by omega)).trans (show _ = Value.agg #[.int .i64 s, .int .i64 i, .int .i64 ee, .int .i64 vv] from by simp [upd, e0, e3])]; simp [go_sem]) fun F7 => ?_
  obtain ⟨v5, w5, hrun, ho5, hg5⟩ := append_rp (w := ({ Y with drawn := Y.drawn + 1 } : World)) ⟨s, i, ee, vv⟩ (show World.ownsRow (({ Y with drawn := Y.drawn + 1 } : World)) B 36 4 (.slice ao r.rp.length capr) r.rp.length (flatR r.rp) from ownsRow_same HRO.out (fun _ _ => rfl)) HLN.out HLW.out
  obtain ⟨ao5, cap5, hv5, _⟩ := own_slice ho5
  subst hv5
  obtain ⟨Cr, hBr, hCr⟩ := HRY.out.blk
  have nk : ∀ (b : Nat) (D : Array Value) (U : TypeId), Blk (({ Y with drawn := Y.drawn + 1 } : World)) b D U → U ≠ 36 → ¬ (Value.slice ao r.rp.length capr).ownBlock = some b := fun b D U hB hU e => by
    obtain ⟨cu, hcu⟩ := ownsRow_type HRO.out e
    exact Blk.ne_t (show Blk Y b D U from hB) (show Blk Y b cu 36 from hcu) hU rfl
  have hr5 := hg5.chg.blk (show Blk (({ Y with drawn := Y.drawn + 1 } : World)) rb Cr 87 from hBr) (nk _ _ _ hBr (by decide))
  have hx5 : Blk w5 cb #[.int .i64 s, .int .i64 i, .int .i64 ee, .int .i64 vv] 36 := hg5.chg.blk hBx HBOX.out
  have hz5 : w5.cell? ⟨rb, 69, none⟩ = some (.slice ao r.rp.length capr) := by
    have := (hr5.cell 69).trans hCr.c69
    rw [HWV.out] at this
    exact this
  have hf5 := hr5.frozen 69
  have HC5 : (fun wq => wq.cell? ⟨rb, 69, none⟩ = some (.slice ao r.rp.length capr) ∧ Blk wq cb #[.int .i64 s, .int .i64 i, .int .i64 ee, .int .i64 vv] 36) w5 := ⟨hz5, hx5⟩
  refine lep F7 rfl HC1 rfl (by omega) (wanted_none rfl) (v := Value.slice ao5 (r.rp.length + 1) cap5) (w1 := w5) (by simp only [execOp, resolve, invoke, builtin, List.map_toArray, List.map_cons, List.map_nil, (F7.eval 57 (by omega)).trans (show _ = Value.slice ao r.rp.length capr from by simp [upd, e0, e3]), (F7.eval 59 (by omega)).trans (show _ = Value.slice (some ⟨Y.heap.size, 0, none⟩) 1 1 from by simp [upd, e0, e3])]; simp only [Sem.run_bind, Sem.run_pure, Result.andThen_ok, show _ = _ from hrun _]; try rfl) fun F8 => ?_
  refine lyp F8 rfl HC5 rfl (by omega) (wanted_none rfl) (v := Value.pointer (some ⟨rb, 0, none⟩)) (fun wr hwr => by simp only [execOp, (F8.eval 53 (by omega)).trans (show _ = Value.pointer (some ⟨rb, 0, none⟩) from by simp [upd, e0, e3])]; simp [go_sem]) fun F9 => ?_
  refine lyp F9 rfl HC5 rfl (by omega) (wanted_none rfl) (v := Value.pointer (some ⟨rb, 69, none⟩)) (fun wr hwr => by simp only [execOp, (F9.eval 61 (by omega)).trans (show _ = Value.pointer (some ⟨rb, 0, none⟩) from by simp [upd, e0, e3])]; simp [go_sem]) fun F10 => ?_
  refine lst rfl HC5 rfl (wanted_none rfl) (w1 := w5.setCell ⟨rb, 69, none⟩ (.slice ao5 (r.rp.length + 1) cap5)) (by simp only [execOp, (F10.eval 62 (by omega)).trans (show _ = Value.pointer (some ⟨rb, 69, none⟩) from by simp [upd, e0, e3]), (F10.eval 60 (by omega)).trans (show _ = Value.slice ao5 (r.rp.length + 1) cap5 from by simp [upd, e0, e3])]; simp [go_sem, hf5, hz5]) ?_
  refine ⟨fun h => by omega, ?_⟩
  clear F0 F1 F2 F3 F4 F5 F6 F7 F8 F9 F10 e0 e3 HCC HC1 HC5 hz5 hf5 nk hrun
  simp only [Act.put, List.setIfInBounds_toArray, List.set_cons_succ, List.set_cons_zero]
  have hRE : RC a B rb r1 ({ Y with drawn := Y.drawn + 1 } : World) := HRY.out.more (Below.drew (Below.refl Y.heap.size Y))
  have hst := hRE.setRps (rp' := r.rp ++ [⟨s, i, ee, vv⟩]) hg5.chg (fun g e hlt => by rw [HWV.out]; exact e) (by rw [List.length_append]; exact ho5) (fun g e => by rw [HWV.out]; exact hg5.at' g e)
  obtain ⟨Z, hZ⟩ : ∃ Z, Z = w5.setCell ⟨rb, 69, none⟩ (.slice ao5 (r.rp.length + 1) cap5) := ⟨_, rfl⟩
  rw [← hZ] at hst ⊢
  have HFI : Hid (∃ vo vr, RStep a B rb r { r with vo := vo, vr := vr, op := r.op.erase (s, i), rp := r.rp ++ [⟨s, i, ee, vv⟩] } w Z) := by
    have e0 : ({ r1 with vr := .slice ao5 (r.rp.length + 1) cap5, rp := r.rp ++ [⟨s, i, ee, vv⟩] } : RS) = { r with vo := r1.vo, vr := .slice ao5 (r.rp.length + 1) cap5, op := r.op.erase (s, i), rp := r.rp ++ [⟨s, i, ee, vv⟩] } := by
      obtain ⟨a1, a2, a3, a4⟩ := HRPS.out
      rw [← a4, ← a3]
    rw [e0] at hst
    refine ⟨r1.vo, .slice ao5 (r.rp.length + 1) cap5, hst.1, (HGY.out.drewN 1).trans hst.2.1 (fun j hj e => ?_), fun g hg => ?_⟩
    · rcases HNY.out j e with h | h
      · exact h
      · omega
    · rcases hst.2.2 g hg with h | h
      · exact HNY.out g h
      · exact Or.inr (Nat.le_trans HGY.out.size h)
  clear hRE hst hZ ho5 hg5 hr5 hx5 hBx hBr hCr XO HRO HRY HGY HXY HBOX
  go_wp2_with fail
  go_ret
  exact ⟨rfl, HFI.out⟩
end Go.Proofs.Ytadfmnlkfcigoaa
