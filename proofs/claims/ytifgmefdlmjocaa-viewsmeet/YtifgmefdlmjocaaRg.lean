import Derived.Test.YtifgmefdlmjocaaRf
import Derived.Test.YtifgmefdlmjocaaDgt
namespace Go.Proofs.Ytifgmefdlmjocaa
open Go.RowKit Go.PlainAid Go.MapKept
set_option linter.unusedVariables false
set_option linter.unusedSimpArgs false
def rdigL (me : Int) (A : List Ent) : List Ent := (nmsL me A).map fun n => lastD me n A
theorem idx1 : (Try.prog.info? 9).map (·.size) = some 1 := by kernel_rfl
set_option maxRecDepth 100000 in
set_option maxHeartbeats 3200000 in
theorem rdigest_any {L rb : Nat} {me N : Int} {v : Value} {A : List Ent} (w : World) (hV : RVw L rb me N v A w) (hL : A.length ≤ 100000) :
    Calls Try.prog 46 #[.pointer (some ⟨rb, 0, none⟩)] w fun e w' => ∃ u, e = .returned u ∧ w'.ownsRow w.heap.size 46 7 u (rdigL me A).length (flatV (rdigL me A)) ∧ Below w.heap.size w w' := by
  have k0 := hV.c0
  have HV : Hid (RVw L rb me N v A w) := hV
  have HNM : Hid _ := names_any' me w hV hL
  have hnl := nmsL_len me A
  clear hV
  go_enter Try.func46, Try.ntmps46
  go_wp2_with fail
  refine Calls.mono HNM.out ?_
  rintro e9 w1 ⟨nv, rfl, hnr, hb1⟩
  obtain ⟨na, nc, hnv, hq9⟩ := own_slice hnr
  subst hnv
  have HLS : Hid (∀ n W, RVw L rb me N v A W → Calls Try.prog 66 #[.pointer (some ⟨rb, 0, none⟩), .int .i64 me, .string ⟨n.toArray⟩] W fun e w' => e = .returned (viewV (lastD me n A)) ∧ Below W.heap.size W w') := fun n W h => rlast_any me n W h hL
  obtain ⟨RD, hRE⟩ : ∃ RD, RD = rdigL me A := ⟨_, rfl⟩
  have HRD : Hid (RD = (nmsL me A).map fun n => lastD me n A) := hRE
  have HRE : Hid (rdigL me A = RD) := hRE.symm
  clear hRE
  generalize nmsL me A = NM at *
  obtain ⟨nn, hnn⟩ : ∃ nn, nn = NM.length := ⟨_, rfl⟩
  have HNN : Hid (nn = NM.length) := hnn
  rw [← hnn] at hnl hq9 hnr ⊢
  have HNR : Hid (World.ownsRow w1 w.heap.size 9 1 (.slice na nn nc) nn (NM.map sV)) := hnr
  have HB1 : Hid (Below w.heap.size w w1) := hb1
  clear hnr hb1 HNM hnn
  go_wp2_with fail
  go_loopw [3, 5] (fun o i wr => ∃ (q : Nat) (u : Value), u = o ∧ q ≤ nn ∧ i = .int .i64 q ∧ wr.ownsRow w.heap.size 46 7 u q (flatV (RD.take q)) ∧ wr.ownsRow w.heap.size 9 1 (.slice na nn nc) nn (NM.map sV) ∧ Below w.heap.size w wr) (fun _ i _ => nn - (intOf i).toNat)
  case atStart => exact ⟨0, _, rfl, Nat.zero_le _, rfl, World.ownsRow_nil _ _ _ _, HNR.out, HB1.out⟩
  case round =>
    obtain ⟨q, u, rfl, hq, rfl, hrow, hnr, hbel⟩ := hrel
    obtain ⟨oa, oc, huu, hq8⟩ := own_slice hrow
    subst huu
    have HRO : Hid (World.ownsRow wr w.heap.size 46 7 (.slice oa q oc) q (flatV (RD.take q))) := hrow
    have HNW : Hid (World.ownsRow wr w.heap.size 9 1 (.slice na nn nc) nn (NM.map sV)) := hnr
    have HB : Hid (Below w.heap.size w wr) := hbel
    clear hq8
    by_cases hlt : q < nn
    · obtain ⟨nm, hnm⟩ : ∃ nm, NM[q]? = some nm := ⟨_, List.getElem?_eq_getElem (by rw [← HNN.out]; exact hlt)⟩
      obtain ⟨ng, hng, q0⟩ : ∃ g, na = some ⟨g, 0, none⟩ ∧ wr.cell? ⟨g, q, none⟩ = some (.string ⟨nm.toArray⟩) := by
        obtain ⟨_, _, e, _, _, h⟩ := own_read hnr
        cases e
        obtain ⟨g, e, _, _, h4⟩ := h (by omega)
        exact ⟨g, e, h4 q _ (by rw [List.getElem?_map, hnm]; rfl)⟩
      subst hng
      have y0 : wr.cell? ⟨rb, 0, none⟩ = some (.int .i64 me) := (HV.out.more hbel).c0
      have HRQ : Hid (RD.take (q + 1) = RD.take q ++ [lastD me nm A]) := show _ = _ from take_snoc (by rw [HRD.out, List.getElem?_map, hnm]; rfl)
      have HL1 : Hid (∀ W, RVw L rb me N v A W → Calls Try.prog 66 #[.pointer (some ⟨rb, 0, none⟩), .int .i64 me, .string ⟨nm.toArray⟩] W fun e w' => e = .returned (viewV (lastD me nm A)) ∧ Below W.heap.size W w') := HLS.out nm
      generalize lastD me nm A = x0 at *
      unfold viewV at HL1
      clear hrow hnr hbel hnm
      go_wp2_with fail
      rename_i K hK
      try rw [show ∀ a : Act, a.put none undef = a from fun _ => rfl]
      refine wp_region_mix (fun wq => wq.cell? ⟨rb, 0, none⟩ = some (.int .i64 me) ∧ wq.cell? ⟨ng, q, none⟩ = some (.string ⟨nm.toArray⟩)) (fun i => i == 10 || i == 11 || i == 12 || i == 99) 99 (by kernel_rfl) rfl (by kernel_rfl) (by kernel_rfl) (by kernel_rfl) ?_
      refine withFrP (N := 32) rfl ?_
      intro f0 F0 hff
      have ee0 : f0 0 = Value.pointer (some ⟨rb, 0, none⟩) := hff 0
      have ee3 : f0 3 = Value.slice oa q oc := hff 3
      have ee4 : f0 4 = Value.slice (some ⟨ng, 0, none⟩) nn nc := hff 4
      have ee5 : f0 5 = Value.int .i64 ((q : Nat) : Int) := hff 5
      clear hff
      have HCC : (fun wq => wq.cell? ⟨rb, 0, none⟩ = some (.int .i64 me) ∧ wq.cell? ⟨ng, q, none⟩ = some (.string ⟨nm.toArray⟩)) (({ wr with drawn := wr.drawn + 1 } : World)) := ⟨y0, q0⟩
      refine lyp F0 rfl HCC rfl (by omega) (wanted_none rfl) (v := Value.slice oa q oc) (fun wr hwr => by simp only [execOp, (F0.eval 3 (by omega)).trans (show _ = Value.slice oa q oc from by simp [upd, ee0, ee3, ee4, ee5])]; first | rfl | simp [go_sem]) fun F1 => ?_
      refine lyp F1 rfl HCC rfl (by omega) (wanted_none rfl) (v := Value.pointer (some ⟨rb, 0, none⟩)) (fun wr hwr => by simp only [execOp, (F1.eval 0 (by omega)).trans (show _ = Value.pointer (some ⟨rb, 0, none⟩) from by simp [upd, ee0, ee3, ee4, ee5])]; first | rfl | simp [go_sem]) fun F2 => ?_
      refine lyp F2 rfl HCC rfl (by omega) (wanted_none rfl) (v := Value.pointer (some ⟨rb, 0, none⟩)) (fun wr hwr => by simp only [execOp, (F2.eval 0 (by omega)).trans (show _ = Value.pointer (some ⟨rb, 0, none⟩) from by simp [upd, ee0, ee3, ee4, ee5])]; first | rfl | simp [go_sem]) fun F3 => ?_
      refine lyp F3 rfl HCC rfl (by omega) (wanted_none rfl) (v := Value.pointer (some ⟨rb, 0, none⟩)) (fun wr hwr => by simp only [execOp, (F3.eval 20 (by omega)).trans (show _ = Value.pointer (some ⟨rb, 0, none⟩) from by simp [upd, ee0, ee3, ee4, ee5])]; simp [go_sem]) fun F4 => ?_
      refine lyp F4 rfl HCC rfl (by omega) (wanted_none rfl) (v := Value.pointer (some ⟨rb, 0, none⟩)) (fun wr hwr => by simp only [execOp, (F4.eval 21 (by omega)).trans (show _ = Value.pointer (some ⟨rb, 0, none⟩) from by simp [upd, ee0, ee3, ee4, ee5])]; simp [go_sem]) fun F5 => ?_
      refine lyp F5 rfl HCC rfl (by omega) (wanted_none rfl) (v := Value.int .i64 me) (fun wr hwr => by simp only [execOp, (F5.eval 22 (by omega)).trans (show _ = Value.pointer (some ⟨rb, 0, none⟩) from by simp [upd, ee0, ee3, ee4, ee5])]; simp [go_sem, hwr.1]) fun F6 => ?_
      refine lyp F6 rfl HCC rfl (by omega) (wanted_none rfl) (v := Value.slice (some ⟨ng, 0, none⟩) nn nc) (fun wr hwr => by simp only [execOp, (F6.eval 4 (by omega)).trans (show _ = Value.slice (some ⟨ng, 0, none⟩) nn nc from by simp [upd, ee0, ee3, ee4, ee5])]; first | rfl | simp [go_sem]) fun F7 => ?_
      refine lyp F7 rfl HCC rfl (by omega) (wanted_none rfl) (v := Value.int .i64 ((q : Nat) : Int)) (fun wr hwr => by simp only [execOp, (F7.eval 5 (by omega)).trans (show _ = Value.int .i64 ((q : Nat) : Int) from by simp [upd, ee0, ee3, ee4, ee5])]; first | rfl | simp [go_sem]) fun F8 => ?_
      refine lyp F8 rfl HCC rfl (by omega) (wanted_none rfl) (v := Value.pointer (some ⟨ng, q, none⟩)) (fun wr hwr => by simp only [execOp, (F8.eval 24 (by omega)).trans (show _ = Value.slice (some ⟨ng, 0, none⟩) nn nc from by simp [upd, ee0, ee3, ee4, ee5]), (F8.eval 25 (by omega)).trans (show _ = Value.int .i64 ((q : Nat) : Int) from by simp [upd, ee0, ee3, ee4, ee5])]; simp only [Sem.run_bind, Sem.run_pure, Result.andThen_ok, idx_run 130 9 1 Try.underlying130 idx1 wr ng 0 nn nc q hlt, Nat.zero_add, Nat.mul_one]; try rfl) fun F9 => ?_
      refine lyp F9 rfl HCC rfl (by omega) (wanted_none rfl) (v := Value.string ⟨nm.toArray⟩) (fun wr hwr => by simp only [execOp, (F9.eval 26 (by omega)).trans (show _ = Value.pointer (some ⟨ng, q, none⟩) from by simp [upd, ee0, ee3, ee4, ee5])]; simp [go_sem, hwr.2]) fun F10 => ?_
      refine lcp F10 rfl HCC rfl (by omega) (wanted_none rfl) (g := 66) (args := #[Value.pointer (some ⟨rb, 0, none⟩), Value.int .i64 me, Value.string ⟨nm.toArray⟩]) (by simp only [execOp, resolve, invoke, List.map_toArray, List.map_cons, List.map_nil, (F10.eval 19 (by omega)).trans (show _ = Value.pointer (some ⟨rb, 0, none⟩) from by simp [upd, ee0, ee3, ee4, ee5]), (F10.eval 23 (by omega)).trans (show _ = Value.int .i64 me from by simp [upd, ee0, ee3, ee4, ee5]), (F10.eval 27 (by omega)).trans (show _ = Value.string ⟨nm.toArray⟩ from by simp [upd, ee0, ee3, ee4, ee5])]; simp [go_sem, Act.eval]) (HL1.out (({ wr with drawn := wr.drawn + 1 } : World)) ((HV.out.more HB.out).keep rfl (fun _ _ => rfl))) ?_
      rintro e9 Y ⟨rfl, hbY⟩
      refine ⟨_, rfl, fun F11 => ?_⟩
      have HC2 : (fun wq => wq.cell? ⟨rb, 0, none⟩ = some (.int .i64 me) ∧ wq.cell? ⟨ng, q, none⟩ = some (.string ⟨nm.toArray⟩)) Y := ⟨cell_below hbY HCC.1, cell_below hbY HCC.2⟩
      have hbY2 : Below wr.heap.size wr Y := (Below.drew (Below.refl _ _)).trans hbY
      have hbWY : Below w.heap.size w Y := HB.out.trans (hbY2.mono HB.out.size)
      have hrY : World.ownsRow Y w.heap.size 46 7 (.slice oa q oc) q (flatV (RD.take q)) := ownsRow_same HRO.out (fun g hg => hbY2.block g (ownsRow_lt HRO.out hg).2)
      have hnY : World.ownsRow Y w.heap.size 9 1 (.slice (some ⟨ng, 0, none⟩) nn nc) nn (NM.map sV) := ownsRow_same HNW.out (fun g hg => hbY2.block g (ownsRow_lt HNW.out hg).2)
      obtain ⟨v5, w5, hrun, ho5, hg5⟩ := app_one 31 46 (viewV zed) 7 64 Try.underlying31 sizeV rfl (by decide) (by decide) hrY #[.string ⟨x0.n.toArray⟩, .int .i64 x0.c, .int .i64 x0.rc, .int .i64 x0.v, .int .i64 x0.d, .int .i64 x0.u, .int .i64 x0.h] rfl (fun u hu => by simp at hu; rcases hu with rfl | rfl | rfl | rfl | rfl | rfl | rfl <;> rfl) (by omega) hbWY.size
      obtain ⟨ao5, cap5, hv5, hq7⟩ := own_slice ho5
      subst hv5
      have HO5 : Hid (World.ownsRow w5 w.heap.size 46 7 (.slice ao5 (q + 1) cap5) (q + 1) (flatV (RD.take (q + 1)))) := show World.ownsRow w5 w.heap.size 46 7 (.slice ao5 (q + 1) cap5) (q + 1) (flatV (RD.take (q + 1))) from by rw [HRQ.out, flatV_append, show flatV [x0] = x0.cs from by simp [flatV]]; exact ho5
      have hne5 : ¬ (Value.slice oa q oc).ownBlock = some ng := fun hh => by obtain ⟨cu, hcu⟩ := ownsRow_type hrY hh; obtain ⟨cv, hcv⟩ := ownsRow_type hnY rfl; exact Blk.ne_t (show Blk Y ng cu 46 from hcu) (show Blk Y ng cv 9 from hcv) (by decide) rfl
      have HN5 : Hid (World.ownsRow w5 w.heap.size 9 1 (.slice (some ⟨ng, 0, none⟩) nn nc) nn (NM.map sV)) := show World.ownsRow w5 w.heap.size 9 1 (.slice (some ⟨ng, 0, none⟩) nn nc) nn (NM.map sV) from ownsRow_same hnY (fun g hg => hg5.chg.block g (ownsRow_lt hnY hg).2 (fun hh => hne5 (by cases hg; exact hh)))
      have HB5 : Hid (Below w.heap.size w w5) := hbWY.trans (hg5.below (fun j hj => (ownsRow_lt hrY hj).1) hbWY.size)
      have hrbY : rb < Y.heap.size := World.block_lt_of_cell? Y _ HC2.1
      have hrbn : ¬ (Value.slice oa q oc).ownBlock = some rb := fun hh => by have := (ownsRow_lt hrY hh).1; have := HV.out.blk.lt; omega
      have HC5 : (fun wq => wq.cell? ⟨rb, 0, none⟩ = some (.int .i64 me) ∧ wq.cell? ⟨ng, q, none⟩ = some (.string ⟨nm.toArray⟩)) w5 := ⟨(World.cell?_of_block (w := Y) (hg5.chg.block rb hrbY hrbn)).trans HC2.1, (World.cell?_of_block (w := Y) (hg5.chg.block ng (ownsRow_lt hnY rfl).2 hne5)).trans HC2.2⟩
      have HC3 : (fun wq => wq.cell? ⟨rb, 0, none⟩ = some (.int .i64 me) ∧ wq.cell? ⟨ng, q, none⟩ = some (.string ⟨nm.toArray⟩)) (Y.alloc (.cells #[.string ⟨x0.n.toArray⟩, .int .i64 x0.c, .int .i64 x0.rc, .int .i64 x0.v, .int .i64 x0.d, .int .i64 x0.u, .int .i64 x0.h] 46)) := ⟨cell_below ((Below.refl _ _).alloc (Nat.le_refl _) _) HC2.1, cell_below ((Below.refl _ _).alloc (Nat.le_refl _) _) HC2.2⟩
      refine lep F11 rfl HC2 rfl (by omega) (wanted_none rfl) (v := Value.slice (some ⟨Y.heap.size, 0, none⟩) 1 1) (w1 := Y.alloc (.cells #[.string ⟨x0.n.toArray⟩, .int .i64 x0.c, .int .i64 x0.rc, .int .i64 x0.v, .int .i64 x0.d, .int .i64 x0.u, .int .i64 x0.h] 46)) (by simp only [execOp, List.map_toArray, List.map_cons, List.map_nil, (F11.eval 28 (by omega)).trans (show _ = Value.agg #[.string ⟨x0.n.toArray⟩, .int .i64 x0.c, .int .i64 x0.rc, .int .i64 x0.v, .int .i64 x0.d, .int .i64 x0.u, .int .i64 x0.h] from by simp [upd, ee0, ee3, ee4, ee5])]; simp [go_sem]) fun F12 => ?_
      refine lep F12 rfl HC3 rfl (by omega) (wanted_none rfl) (v := Value.slice ao5 (q + 1) cap5) (w1 := w5) (by simp only [execOp, resolve, invoke, builtin, List.map_toArray, List.map_cons, List.map_nil, (F12.eval 18 (by omega)).trans (show _ = Value.slice oa q oc from by simp [upd, ee0, ee3, ee4, ee5]), (F12.eval 29 (by omega)).trans (show _ = Value.slice (some ⟨Y.heap.size, 0, none⟩) 1 1 from by simp [upd, ee0, ee3, ee4, ee5])]; simp only [Sem.run_bind, Sem.run_pure, Result.andThen_ok, show _ = _ from hrun _]; try rfl) fun F13 => ?_
      refine lyp F13 rfl HC5 rfl (by omega) (wanted_none rfl) (v := Value.slice ao5 (q + 1) cap5) (fun wr hwr => by simp only [execOp, (F13.eval 30 (by omega)).trans (show _ = Value.slice ao5 (q + 1) cap5 from by simp [upd, ee0, ee3, ee4, ee5])]; first | rfl | simp [go_sem]) fun F14 => ?_
      refine ⟨fun _ => HC5, ?_⟩
      refine hK _ _ ?_
      clear F0 F1 F2 F3 F4 F5 F6 F7 F8 F9 F10 F11 F12 F13 F14 ee0 ee3 ee4 ee5 HCC HC2 HC3 HC5 hrun hbY hbY2 hbWY hrY hnY ho5 hg5 hne5 hrbY hrbn hq7
      simp only [Act.put, List.setIfInBounds_toArray, List.set_cons_succ, List.set_cons_zero]
      go_wp2_with fail
      go_roundw
      case rel => exact ⟨q + 1, _, rfl, by omega, by go_num, HO5.out, HN5.out, HB5.out⟩
      case measure => simp [intOf]; omega
    · have HFN : Hid (World.ownsRow wr w.heap.size 46 7 (.slice oa q oc) RD.length (flatV RD)) := show World.ownsRow wr w.heap.size 46 7 (.slice oa q oc) RD.length (flatV RD) from by
        have hr : RD.length = q := by rw [HRD.out, List.length_map, ← HNN.out]; omega
        rw [hr]
        have := HRO.out
        rwa [List.take_of_length_le (by omega)] at this
      clear hrow hnr hbel
      go_wp2_with fail
      go_ret
      exact ⟨_, rfl, by rw [HRE.out]; exact HFN.out, HB.out⟩
end Go.Proofs.Ytifgmefdlmjocaa
