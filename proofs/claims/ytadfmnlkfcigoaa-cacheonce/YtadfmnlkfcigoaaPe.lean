import Derived.Test.YtadfmnlkfcigoaaPb
namespace Go.Proofs.Ytadfmnlkfcigoaa
open Go.RowKit Go.PlainAid
set_option linter.unusedVariables false
set_option linter.unusedSimpArgs false
theorem XEnd.op {a : CA} {x x' : CX} {y : Rp} (h : XEnd a x x' y) : x'.op.length ≤ x.op.length := by
  by_cases h0 : resE a (x.la y.s) (isIn (y.s, y.i) x.op) y.s y.i = 0
  · obtain ⟨R', _, rfl⟩ := h.ok h0
    simp only [CX.setRg]
    exact List.length_erase_le
  · rw [h.no h0]
    exact Nat.le_refl _
theorem XEnd.la {a : CA} {x x' : CX} {y : Rp} (h : XEnd a x x' y) : x'.la = x.la := by
  by_cases h0 : resE a (x.la y.s) (isIn (y.s, y.i) x.op) y.s y.i = 0
  · obtain ⟨R', _, rfl⟩ := h.ok h0
    rfl
  · rw [h.no h0]
theorem RFin.rp {a : CA} {r r' : RS} {y : Rp} (h : RFin a r r' y) : r'.rp.length ≤ r.rp.length + 1 := by
  by_cases h0 : resE a (r.la y.s) (isIn (y.s, y.i) r.op) y.s y.i = 0
  · rw [(h.ok h0).2.2]
    simp
  · rw [h.no h0]
    omega
set_option maxRecDepth 100000 in
set_option maxHeartbeats 6400000 in
theorem pend (a : PA) (s : PV) (q : Nat) (y : Rp) (w : World) (h : PN a s w) (hb : PBd s q) (hq : q ≤ 900) (hs1 : In64 y.s) :
    Calls Try.prog 29 #[.pointer (some ⟨a.pb, 0, none⟩), .agg #[.int .i64 y.s, .int .i64 y.i, .int .i64 y.e, .int .i64 y.v]] w fun e w' => e = .returned (.bool true) ∧ PPost a s q s.x.la w w' := by
  obtain ⟨cd, hres⟩ : ∃ res, res = resE a.ca (s.x.la y.s) (isIn (y.s, y.i) s.x.op) y.s y.i := ⟨_, rfl⟩
  have hok := h.ok
  have HM1 : Hid (∀ (A : List (Ent a.L)) W, AS (has (a.ents s)) w (A ++ (boxE a.L a.pb (pairV a.ca.cb a.rb s.mark s.z) 57 :: cmE a.L a.ca s.x :: rcE a.L a.ca a.rb s.r :: s.z.ents a.L)) W → Calls Try.prog 12 #[.pointer (some ⟨a.ca.cb, 0, none⟩), .agg #[.int .i64 y.s, .int .i64 y.i, .int .i64 y.e, .int .i64 y.v]] W fun e v2 => e = .returned (.int .i64 cd) ∧ ∃ x', XEnd a.ca s.x x' y ∧ AS (has (a.ents s)) w (A ++ (boxE a.L a.pb (pairV a.ca.cb a.rb s.mark s.z) 57 :: cmE a.L a.ca x' :: rcE a.L a.ca a.rb s.r :: s.z.ents a.L)) v2) := fun A W hW => by
    have hM := (hW.get (e := cmE a.L a.ca s.x) (by simp)).1
    refine (end_all y W hM hs1).mono ?_
    rintro e v2 ⟨rfl, ⟨x', hm2, hxe⟩, hc2⟩
    rw [← hres]
    exact ⟨rfl, x', hxe, hW.cm hm2 hc2⟩
  have HM2 : Hid (∀ x' (A : List (Ent a.L)) W, AS (has (a.ents s)) w (A ++ (boxE a.L a.pb (pairV a.ca.cb a.rb s.mark s.z) 57 :: cmE a.L a.ca x' :: rcE a.L a.ca a.rb s.r :: s.z.ents a.L)) W → Calls Try.prog 34 #[.pointer (some ⟨a.rb, 0, none⟩), .agg #[.int .i64 y.s, .int .i64 y.i, .int .i64 y.e, .int .i64 y.v]] W fun e v2 => e = .returned (.int .i64 cd) ∧ ∃ r', RFin a.ca s.r r' y ∧ AS (has (a.ents s)) w (A ++ (boxE a.L a.pb (pairV a.ca.cb a.rb s.mark s.z) 57 :: cmE a.L a.ca x' :: rcE a.L a.ca a.rb r' :: s.z.ents a.L)) v2) := fun x' A W hW => by
    have hM := hW.get (e := rcE a.L a.ca a.rb s.r) (by simp)
    refine (rend_all y W hM hok (by rw [h.g.op]; have := hb.op; omega) (by have := hb.rp; omega)).mono ?_
    rintro e v2 ⟨rfl, r', hst, hrf⟩
    rw [h.g.resE y.s y.i, ← hres]
    exact ⟨rfl, r', hrf, hW.rc hst⟩
  obtain ⟨X, hX⟩ : ∃ X, X = w.alloc (.cells #[.int .i64 y.s, .int .i64 y.i, .int .i64 y.e, .int .i64 y.v] 36) := ⟨_, rfl⟩
  obtain ⟨bx, hbx⟩ : ∃ bx, bx = w.heap.size := ⟨_, rfl⟩
  have HL : Hid (a.L ≤ w.heap.size) := h.lo
  have HAX : Hid (AS (has (a.ents s)) w (boxE a.L bx #[.int .i64 y.s, .int .i64 y.i, .int .i64 y.e, .int .i64 y.v] 36 :: (boxE a.L a.pb (pairV a.ca.cb a.rb s.mark s.z) 57 :: cmE a.L a.ca s.x :: rcE a.L a.ca a.rb s.r :: s.z.ents a.L)) X) := by
    have h0 := h.as.fresh (e := boxE a.L bx #[.int .i64 y.s, .int .i64 y.i, .int .i64 y.e, .int .i64 y.v] 36) (w' := X) (by rw [hX]; exact (Below.refl _ _).alloc (Nat.le_refl _) _) ⟨by rw [hX, hbx]; exact heap_alloc_new w _, by rw [hbx]; exact h.lo⟩ (fun k e => by rw [e, hbx]; exact Nat.le_refl _)
    exact h0
  have HCL1 : Hid (∀ W es, AS (has (a.ents s)) w es W → boxE a.L a.pb (pairV a.ca.cb a.rb s.mark s.z) 57 ∈ es → boxE a.L bx #[.int .i64 y.s, .int .i64 y.i, .int .i64 y.e, .int .i64 y.v] 36 ∈ es → (fun wq => wq.cell? ⟨a.pb, 0, none⟩ = some (.pointer (some ⟨a.ca.cb, 0, none⟩)) ∧ Blk wq bx #[.int .i64 y.s, .int .i64 y.i, .int .i64 y.e, .int .i64 y.v] 36) W) := fun W es hW h1 h2 => by
    exact ⟨((hW.get h1).1).cell 0, (hW.get h2).1⟩
  have HCL2 : Hid (∀ W es, AS (has (a.ents s)) w es W → boxE a.L a.pb (pairV a.ca.cb a.rb s.mark s.z) 57 ∈ es → boxE a.L bx #[.int .i64 y.s, .int .i64 y.i, .int .i64 y.e, .int .i64 y.v] 36 ∈ es → (fun wq => wq.cell? ⟨a.pb, 1, none⟩ = some (.pointer (some ⟨a.rb, 0, none⟩)) ∧ Blk wq bx #[.int .i64 y.s, .int .i64 y.i, .int .i64 y.e, .int .i64 y.v] 36) W) := fun W es hW h1 h2 => by
    exact ⟨((hW.get h1).1).cell 1, (hW.get h2).1⟩
  have HEND : Hid (∀ x' r' U, XEnd a.ca s.x x' y → RFin a.ca s.r r' y → AS (has (a.ents s)) w (boxE a.L bx #[.int .i64 y.s, .int .i64 y.i, .int .i64 y.e, .int .i64 y.v] 36 :: (boxE a.L a.pb (pairV a.ca.cb a.rb s.mark s.z) 57 :: cmE a.L a.ca x' :: rcE a.L a.ca a.rb r' :: s.z.ents a.L)) U → PPost a s q s.x.la w U) := fun x' r' U hxe hrf hA => by
    have hA2 : AS (has (a.ents s)) w (a.ents { x := x', r := r', mark := s.mark, z := s.z }) U := hA.drop
    obtain ⟨p1, p2⟩ := h.of hA2 h.f (h.g.fin hok hxe hrf)
    refine ⟨_, p1, p2, ⟨?_, ?_, ?_, ?_⟩, hxe.la⟩
    · have := hxe.op
      have := hb.op
      simp only
      omega
    · have := hrf.rp
      have := hb.rp
      simp only
      omega
    · have := hb.mrk
      exact ⟨this.1, by simp only; omega⟩
    · have := hb.lc
      simp only
      omega
  clear h hb hres hok hs1
  go_enter Try.func29, Try.ntmps29
  go_wp2_with fail
  rw [← hX, ← hbx]
  clear hX hbx
  rename_i K hK
  try rw [show ∀ a : Act, a.put none undef = a from fun _ => rfl]
  refine wp_region_mix (fun wq => wq.cell? ⟨a.pb, 0, none⟩ = some (.pointer (some ⟨a.ca.cb, 0, none⟩)) ∧ Blk wq bx #[.int .i64 y.s, .int .i64 y.i, .int .i64 y.e, .int .i64 y.v] 36) (fun i => i == 5 || i == 99) 99 (by kernel_rfl) rfl (by kernel_rfl) (by kernel_rfl) (by kernel_rfl) ?_
  refine withFrP (N := 21) rfl ?_
  intro f0 F0 hff
  have e0 : f0 0 = Value.pointer (some ⟨a.pb, 0, none⟩) := hff 0
  have e3 : f0 3 = Value.pointer (some ⟨bx, 0, none⟩) := hff 3
  clear hff
  have h0 := HAX.out.more (Below.drew (Below.refl X.heap.size X))
  have HCC : (fun wq => wq.cell? ⟨a.pb, 0, none⟩ = some (.pointer (some ⟨a.ca.cb, 0, none⟩)) ∧ Blk wq bx #[.int .i64 y.s, .int .i64 y.i, .int .i64 y.e, .int .i64 y.v] 36) (({ X with drawn := X.drawn + 1 } : World)) := HCL1.out _ _ h0 (by simp) (by simp)
  refine lyp F0 rfl HCC rfl (by omega) (wanted_none rfl) (v := Value.pointer (some ⟨a.pb, 0, none⟩)) (fun wr hwr => by simp only [execOp, (F0.eval 0 (by omega)).trans (show _ = Value.pointer (some ⟨a.pb, 0, none⟩) from by simp [upd, e0, e3])]; first | rfl | simp [go_sem]) fun F1 => ?_
  refine lyp F1 rfl HCC rfl (by omega) (wanted_none rfl) (v := Value.pointer (some ⟨a.pb, 0, none⟩)) (fun wr hwr => by simp only [execOp, (F1.eval 6 (by omega)).trans (show _ = Value.pointer (some ⟨a.pb, 0, none⟩) from by simp [upd, e0, e3])]; simp [go_sem]) fun F2 => ?_
  refine lyp F2 rfl HCC rfl (by omega) (wanted_none rfl) (v := Value.pointer (some ⟨a.pb, 0, none⟩)) (fun wr hwr => by simp only [execOp, (F2.eval 7 (by omega)).trans (show _ = Value.pointer (some ⟨a.pb, 0, none⟩) from by simp [upd, e0, e3])]; simp [go_sem]) fun F3 => ?_
  refine lyp F3 rfl HCC rfl (by omega) (wanted_none rfl) (v := Value.pointer (some ⟨a.ca.cb, 0, none⟩)) (fun wr hwr => by simp only [execOp, (F3.eval 8 (by omega)).trans (show _ = Value.pointer (some ⟨a.pb, 0, none⟩) from by simp [upd, e0, e3])]; simp [go_sem, hwr.1]) fun F4 => ?_
  refine lyp F4 rfl HCC rfl (by omega) (wanted_none rfl) (v := Value.agg #[.int .i64 y.s, .int .i64 y.i, .int .i64 y.e, .int .i64 y.v]) (fun wr hwr => by simp only [execOp, (F4.eval 3 (by omega)).trans (show _ = Value.pointer (some ⟨bx, 0, none⟩) from by simp [upd, e0, e3])]; simp [go_sem, show wr.cell? ⟨bx, 0, none⟩ = some (.int .i64 y.s) from hwr.2.cell 0, show wr.cell? ⟨bx, 1, none⟩ = some (.int .i64 y.i) from hwr.2.cell 1, show wr.cell? ⟨bx, 2, none⟩ = some (.int .i64 y.e) from hwr.2.cell 2, show wr.cell? ⟨bx, 3, none⟩ = some (.int .i64 y.v) from hwr.2.cell 3]) fun F5 => ?_
  refine lcp F5 rfl HCC rfl (by omega) (wanted_none rfl) (g := 12) (args := #[Value.pointer (some ⟨a.ca.cb, 0, none⟩), Value.agg #[.int .i64 y.s, .int .i64 y.i, .int .i64 y.e, .int .i64 y.v]]) (by simp only [execOp, resolve, invoke, List.map_toArray, List.map_cons, List.map_nil, (F5.eval 9 (by omega)).trans (show _ = Value.pointer (some ⟨a.ca.cb, 0, none⟩) from by simp [upd, e0, e3]), (F5.eval 10 (by omega)).trans (show _ = Value.agg #[.int .i64 y.s, .int .i64 y.i, .int .i64 y.e, .int .i64 y.v] from by simp [upd, e0, e3])]; simp [go_sem, Act.eval]) (HM1.out [boxE a.L bx #[.int .i64 y.s, .int .i64 y.i, .int .i64 y.e, .int .i64 y.v] 36] ({ X with drawn := X.drawn + 1 } : World) h0) ?_
  rintro e v2 ⟨rfl, x', hxe, hA2⟩
  have HC1 : (fun wq => wq.cell? ⟨a.pb, 0, none⟩ = some (.pointer (some ⟨a.ca.cb, 0, none⟩)) ∧ Blk wq bx #[.int .i64 y.s, .int .i64 y.i, .int .i64 y.e, .int .i64 y.v] 36) v2 := HCL1.out _ _ hA2 (by simp) (by simp)
  refine ⟨_, rfl, fun F6 => ?_⟩
  refine lyp F6 rfl HC1 rfl (by omega) (wanted_none rfl) (v := Value.int .i64 cd) (fun wr hwr => by simp only [execOp, (F6.eval 11 (by omega)).trans (show _ = Value.int .i64 cd from by simp [upd, e0, e3])]; first | rfl | simp [go_sem]) fun F7 => ?_
  refine ⟨fun _ => HC1, ?_⟩
  refine hK _ _ ?_
  clear F0 F1 F2 F3 F4 F5 F6 F7 e0 e3 HCC h0 HC1
  simp only [Act.put, List.setIfInBounds_toArray, List.set_cons_succ, List.set_cons_zero]

  have HAY : Hid (AS (has (a.ents s)) w (boxE a.L bx #[.int .i64 y.s, .int .i64 y.i, .int .i64 y.e, .int .i64 y.v] 36 :: (boxE a.L a.pb (pairV a.ca.cb a.rb s.mark s.z) 57 :: cmE a.L a.ca x' :: rcE a.L a.ca a.rb s.r :: s.z.ents a.L)) v2) := hA2
  have HXE : Hid (XEnd a.ca s.x x' y) := hxe
  clear hA2 hxe HM1 HCL1 HAX
  go_wp2_with fail
  rename_i K2 hK2
  try rw [show ∀ a : Act, a.put none undef = a from fun _ => rfl]
  refine wp_region_mix (fun wq => wq.cell? ⟨a.pb, 1, none⟩ = some (.pointer (some ⟨a.rb, 0, none⟩)) ∧ Blk wq bx #[.int .i64 y.s, .int .i64 y.i, .int .i64 y.e, .int .i64 y.v] 36) (fun i => i == 1 || i == 7 || i == 99) 99 (by kernel_rfl) rfl (by kernel_rfl) (by kernel_rfl) (by kernel_rfl) ?_
  refine withFrP (N := 21) rfl ?_
  intro f0 F0 hff
  have e0 : f0 0 = Value.pointer (some ⟨a.pb, 0, none⟩) := hff 0
  have e3 : f0 3 = Value.pointer (some ⟨bx, 0, none⟩) := hff 3
  have e5 : f0 5 = Value.int .i64 cd := hff 5
  clear hff
  have h0 := HAY.out.more (Below.drew (Below.refl v2.heap.size v2))
  have HCC : (fun wq => wq.cell? ⟨a.pb, 1, none⟩ = some (.pointer (some ⟨a.rb, 0, none⟩)) ∧ Blk wq bx #[.int .i64 y.s, .int .i64 y.i, .int .i64 y.e, .int .i64 y.v] 36) (({ v2 with drawn := v2.drawn + 1 } : World)) := HCL2.out _ _ h0 (by simp) (by simp)
  refine lyp F0 rfl HCC rfl (by omega) (wanted_none rfl) (v := Value.int .i64 cd) (fun wr hwr => by simp only [execOp, (F0.eval 5 (by omega)).trans (show _ = Value.int .i64 cd from by simp [upd, e0, e3, e5])]; first | rfl | simp [go_sem]) fun F1 => ?_
  refine lcp F1 rfl HCC rfl (by omega) (wanted_none rfl) (g := 11) (args := #[Value.int .i64 cd]) (by simp only [execOp, resolve, invoke, List.map_toArray, List.map_cons, List.map_nil, (F1.eval 12 (by omega)).trans (show _ = Value.int .i64 cd from by simp [upd, e0, e3, e5])]; simp [go_sem, Act.eval]) (num_any cd _) ?_
  rintro e v3 ⟨rfl, rfl⟩
  refine ⟨_, rfl, fun F2 => ?_⟩
  refine lyp F2 rfl HCC rfl (by omega) (wanted_none rfl) (v := Value.pointer (some ⟨a.pb, 0, none⟩)) (fun wr hwr => by simp only [execOp, (F2.eval 0 (by omega)).trans (show _ = Value.pointer (some ⟨a.pb, 0, none⟩) from by simp [upd, e0, e3, e5])]; first | rfl | simp [go_sem]) fun F3 => ?_
  refine lyp F3 rfl HCC rfl (by omega) (wanted_none rfl) (v := Value.pointer (some ⟨a.pb, 0, none⟩)) (fun wr hwr => by simp only [execOp, (F3.eval 14 (by omega)).trans (show _ = Value.pointer (some ⟨a.pb, 0, none⟩) from by simp [upd, e0, e3, e5])]; simp [go_sem]) fun F4 => ?_
  refine lyp F4 rfl HCC rfl (by omega) (wanted_none rfl) (v := Value.pointer (some ⟨a.pb, 1, none⟩)) (fun wr hwr => by simp only [execOp, (F4.eval 15 (by omega)).trans (show _ = Value.pointer (some ⟨a.pb, 0, none⟩) from by simp [upd, e0, e3, e5])]; simp [go_sem]) fun F5 => ?_
  refine lyp F5 rfl HCC rfl (by omega) (wanted_none rfl) (v := Value.pointer (some ⟨a.rb, 0, none⟩)) (fun wr hwr => by simp only [execOp, (F5.eval 16 (by omega)).trans (show _ = Value.pointer (some ⟨a.pb, 1, none⟩) from by simp [upd, e0, e3, e5])]; simp [go_sem, hwr.1]) fun F6 => ?_
  refine lyp F6 rfl HCC rfl (by omega) (wanted_none rfl) (v := Value.agg #[.int .i64 y.s, .int .i64 y.i, .int .i64 y.e, .int .i64 y.v]) (fun wr hwr => by simp only [execOp, (F6.eval 3 (by omega)).trans (show _ = Value.pointer (some ⟨bx, 0, none⟩) from by simp [upd, e0, e3, e5])]; simp [go_sem, show wr.cell? ⟨bx, 0, none⟩ = some (.int .i64 y.s) from hwr.2.cell 0, show wr.cell? ⟨bx, 1, none⟩ = some (.int .i64 y.i) from hwr.2.cell 1, show wr.cell? ⟨bx, 2, none⟩ = some (.int .i64 y.e) from hwr.2.cell 2, show wr.cell? ⟨bx, 3, none⟩ = some (.int .i64 y.v) from hwr.2.cell 3]) fun F7 => ?_
  refine lcp F7 rfl HCC rfl (by omega) (wanted_none rfl) (g := 34) (args := #[Value.pointer (some ⟨a.rb, 0, none⟩), Value.agg #[.int .i64 y.s, .int .i64 y.i, .int .i64 y.e, .int .i64 y.v]]) (by simp only [execOp, resolve, invoke, List.map_toArray, List.map_cons, List.map_nil, (F7.eval 17 (by omega)).trans (show _ = Value.pointer (some ⟨a.rb, 0, none⟩) from by simp [upd, e0, e3, e5]), (F7.eval 18 (by omega)).trans (show _ = Value.agg #[.int .i64 y.s, .int .i64 y.i, .int .i64 y.e, .int .i64 y.v] from by simp [upd, e0, e3, e5])]; simp [go_sem, Act.eval]) (HM2.out x' [boxE a.L bx #[.int .i64 y.s, .int .i64 y.i, .int .i64 y.e, .int .i64 y.v] 36] ({ v2 with drawn := v2.drawn + 1 } : World) h0) ?_
  rintro e v4 ⟨rfl, r', hrf, hA4⟩
  have HC4 : (fun wq => wq.cell? ⟨a.pb, 1, none⟩ = some (.pointer (some ⟨a.rb, 0, none⟩)) ∧ Blk wq bx #[.int .i64 y.s, .int .i64 y.i, .int .i64 y.e, .int .i64 y.v] 36) v4 := HCL2.out _ _ hA4 (by simp) (by simp)
  refine ⟨_, rfl, fun F8 => ?_⟩
  refine lyp F8 rfl HC4 rfl (by omega) (wanted_none rfl) (v := Value.bool true) (fun wr hwr => by simp only [execOp, (F8.eval 13 (by omega)).trans (show _ = Value.int .i64 cd from by simp [upd, e0, e3, e5]), (F8.eval 19 (by omega)).trans (show _ = Value.int .i64 cd from by simp [upd, e0, e3, e5])]; simp [go_sem, Act.eval]) fun F9 => ?_
  refine lyp F9 rfl HC4 rfl (by omega) (wanted_none rfl) (v := Value.bool true) (fun wr hwr => by simp only [execOp, (F9.eval 20 (by omega)).trans (show _ = Value.bool true from by simp [upd, e0, e3, e5])]; first | rfl | simp [go_sem]) fun F10 => ?_
  refine ⟨fun _ => HC4, ?_⟩
  refine hK2 _ _ ?_
  clear F0 F1 F2 F3 F4 F5 F6 F7 F8 F9 F10 e0 e3 e5 HCC h0 HC4
  simp only [Act.put, List.setIfInBounds_toArray, List.set_cons_succ, List.set_cons_zero]

  have HFI : Hid (PPost a s q s.x.la w v4) := HEND.out x' r' v4 HXE.out hrf hA4
  clear hA4 hrf HEND HM2 HCL2 HAY HXE
  go_wp2_with fail
  go_ret
  exact ⟨rfl, HFI.out⟩
end Go.Proofs.Ytadfmnlkfcigoaa
