import Derived.Test.YtjmbhaoehfdpoaaDoorJoinD
namespace Go.Proofs.YtjmbhaoehfdpoaaDoor
open Go.RowKit Go.PlainAid Go.MapKept
set_option linter.unusedVariables false
set_option linter.unusedSimpArgs false
theorem lastD_v {me : Int} {M : Nat} {L A : List Ent} (h : AgC me M L A) (n : List UInt8) : 0 ≤ (lastD me n A).v ∧ (lastD me n A).v ≤ (M : Int) := by
  rw [← h.d]
  unfold lookD
  cases hq : look me n L with
  | none => simp [zed]
  | some e =>
    obtain ⟨k1, k2, _⟩ := look_key hq
    have := h.ow e k1 k2
    have := (right_good (h.rt e k1)).v
    simp
    omega
set_option maxRecDepth 100000 in
set_option maxHeartbeats 6400000 in
theorem tells_own {L0 M : Nat} {i : PIx} {x : PVl} (kd wh a : Int) (n : List UInt8) (d u : Int) (w : World) (h : PI L0 M i x w) (hM : M ≤ 300) (hc : newCode i.me i.N = 0) (ha : -9223372036854775808 ≤ a ∧ a ≤ 9223372036854775807) (hn : n.length ≤ 140737488355328) (hd : -9223372036854775808 ≤ d ∧ d ≤ 9223372036854775807) (hu : -9223372036854775808 ≤ u ∧ u ≤ 9223372036854775807) (hr : wx a i.N = i.me) :
    Calls Tryd.prog 39 #[.pointer (some ⟨i.pb, 0, none⟩), .agg #[.int .i64 kd, .int .i64 wh, .int .i64 a, .string ⟨n.toArray⟩, .int .i64 d, .int .i64 u]] w fun e w' => e = .returned (.bool true) ∧ ∃ vv', PI L0 (M + 1) i ⟨x.ver, x.L, x.A, x.gv, x.s, tellNext i.me x.VL ⟨i.me, n, 1099511627776, 0, 1, d, u, 0⟩, rtellNext i.me x.VA ⟨i.me, n, 1099511627776, 0, 1, d, u, 0⟩, vv'⟩ w' ∧ PNew i x.gv x.vv x.gv vv' w w' := by
  have hnc : ¬ (i.N : Int) < 2 ∧ ¬ 16 < (i.N : Int) := by
    unfold newCode at hc
    split at hc
    · cases hc
    · omega
  obtain ⟨r, hrr⟩ : ∃ r, r = i.me := ⟨_, rfl⟩
  obtain ⟨Nn, hNn⟩ : ∃ Nn : Int, Nn = i.N := ⟨_, rfl⟩
  obtain ⟨N1, hN1'⟩ : ∃ N1 : Int, N1 = Nn - 1 := ⟨_, rfl⟩
  have hsn : (Ent.mk i.me n 1099511627776 0 1 d u 0).sane := ⟨hn, ⟨show (-9223372036854775808 : Int) ≤ 1099511627776 by decide, show (1099511627776 : Int) ≤ 9223372036854775807 by decide⟩, hd, hu⟩
  have hN1 : IntKind.i64.wrap (Nn - 1) = N1 := by rw [IntKind.wrap_i64]; omega
  have HWI : Hid (∀ W, Calls Tryd.prog 8 #[.int .i64 a, .int .i64 0, .int .i64 N1] W fun e w' => e = .returned (.int .i64 r) ∧ w' = W) := fun W => by
    have := within_any a 0 N1 W ha.1 ha.2 (by omega) (by omega) (by omega)
    rw [show (0 : Int) + wx a (N1 - 0 + 1) = r from by rw [hrr, ← hr, show N1 - 0 + 1 = (i.N : Int) by omega]; omega] at this
    exact this
  obtain ⟨t1, t2, t3⟩ := h.ag.tell n 1099511627776 0 d u 0
  have hll := h.ag.ll
  have hal := h.al
  have hlv := lastD_v h.ag n
  have hrt := h.ag.rt
  have how := h.ag.ow
  have HTL : Hid (∀ W, Vw i.hb i.vb i.me i.N x.VL W → Calls Tryd.prog 53 #[.pointer (some ⟨i.hb, 0, none⟩), .string ⟨n.toArray⟩, .int .i64 1099511627776, .int .i64 0, .agg #[.int .i64 d, .int .i64 u], .int .i64 0] W fun q w' => q = .returned (.int .i64 (rtellCode i.me x.VA ⟨i.me, n, 1099511627776, 0, 1, d, u, 0⟩)) ∧ Vw i.hb i.vb i.me i.N (tellNext i.me x.VL ⟨i.me, n, 1099511627776, 0, 1, d, u, 0⟩) w' ∧ Chg (fun k => k = i.vb) W w') := fun W hV => by
    have := tell_own n 1099511627776 0 d u 0 W hV (by omega) hsn (fun e he hre => ⟨(right_good (hrt e he)).v, by have := how e he hre; omega⟩)
    rwa [t1] at this
  have HRT : Hid (∀ W v, RVw L0 i.rb i.me i.N v x.VA W → Calls Tryd.prog 54 #[.pointer (some ⟨i.rb, 0, none⟩), .string ⟨n.toArray⟩, .int .i64 1099511627776, .int .i64 0, .agg #[.int .i64 d, .int .i64 u], .int .i64 0] W fun q w' => q = .returned (.int .i64 (rtellCode i.me x.VA ⟨i.me, n, 1099511627776, 0, 1, d, u, 0⟩)) ∧ RPost L0 i.rb i.me i.N v (rtellNext i.me x.VA ⟨i.me, n, 1099511627776, 0, 1, d, u, 0⟩) W w') := fun W v hV => rtell_any n 1099511627776 0 d u 0 W hV (by omega) hsn (by omega)
  have HFIN : Hid (∀ w' vv', PS L0 i x.gv x.vv w x.ver x.L x.A x.gv x.s x.s (tellNext i.me x.VL ⟨i.me, n, 1099511627776, 0, 1, d, u, 0⟩) (rtellNext i.me x.VA ⟨i.me, n, 1099511627776, 0, 1, d, u, 0⟩) vv' w' → PI L0 (M + 1) i ⟨x.ver, x.L, x.A, x.gv, x.s, tellNext i.me x.VL ⟨i.me, n, 1099511627776, 0, 1, d, u, 0⟩, rtellNext i.me x.VA ⟨i.me, n, 1099511627776, 0, 1, d, u, 0⟩, vv'⟩ w') := fun w' vv' q => ⟨by have := q.box; unfold pbox at this; exact this, q.gs, q.rg, q.ld, q.rl, h.ok, q.vw, q.rv, t2, by show (rtellNext i.me x.VA ⟨i.me, n, 1099511627776, 0, 1, d, u, 0⟩).length ≤ 128 * (M + 1); omega, Nat.le_succ_of_le h.ver, h.kd, h.lo', h.lg, Nat.le_succ_of_le h.gl, h.ne, h.lo⟩
  generalize tellNext i.me x.VL ⟨i.me, n, 1099511627776, 0, 1, d, u, 0⟩ = VL1 at *
  generalize rtellNext i.me x.VA ⟨i.me, n, 1099511627776, 0, 1, d, u, 0⟩ = VA1 at *
  generalize rtellCode i.me x.VA ⟨i.me, n, 1099511627776, 0, 1, d, u, 0⟩ = cd at *
  obtain ⟨ob, hob⟩ : ∃ ob, ob = w.heap.size := ⟨_, rfl⟩
  obtain ⟨X, hX⟩ : ∃ X, X = w.alloc (.cells #[.int .i64 kd, .int .i64 wh, .int .i64 a, .string ⟨n.toArray⟩, .int .i64 d, .int .i64 u] 38) := ⟨_, rfl⟩
  have hbX : Below w.heap.size w X := by rw [hX]; exact (Below.refl _ _).alloc (Nat.le_refl _) _
  have HBO : Hid (Blk X ob #[.int .i64 kd, .int .i64 wh, .int .i64 a, .string ⟨n.toArray⟩, .int .i64 d, .int .i64 u] 38) := show Blk X ob #[.int .i64 kd, .int .i64 wh, .int .i64 a, .string ⟨n.toArray⟩, .int .i64 d, .int .i64 u] 38 from by rw [hX, hob]; exact heap_alloc_new w _
  have HS0 : Hid (PS L0 i x.gv x.vv w x.ver x.L x.A x.gv x.s x.s x.VL x.VA x.vv X) := h.ps.more hbX
  have x1 : X.cell? ⟨i.pb, 1, none⟩ = some (.int .i64 Nn) := by rw [hNn]; exact HS0.out.box.cell 1
  clear h hc hnc t1 t2 t3 hll hal hsn hr ha hn hd hu hbX hN1' hlv hrt how
  go_enter Tryd.func39, Tryd.ntmps39
  go_upto_region 1 with fail
  rw [← hX, ← hob]
  clear hX hob
  go_wp2_with fail
  rename_i K hK
  try rw [show ∀ a : Act, a.put none undef = a from fun _ => rfl]
  refine wp_region_mix (fun wq => wq.cell? ⟨i.pb, 1, none⟩ = some (.int .i64 Nn) ∧ Blk wq ob #[.int .i64 kd, .int .i64 wh, .int .i64 a, .string ⟨n.toArray⟩, .int .i64 d, .int .i64 u] 38) (fun i => i == 7 || i == 99) 99 (by kernel_rfl) rfl (by kernel_rfl) (by kernel_rfl) (by kernel_rfl) ?_
  refine withFrP (N := 92) rfl ?_
  intro f0 F0 hff
  have ee0 : f0 0 = Value.pointer (some ⟨i.pb, 0, none⟩) := hff 0
  have ee3 : f0 3 = Value.pointer (some ⟨ob, 0, none⟩) := hff 3
  clear hff
  have HCC : (fun wq => wq.cell? ⟨i.pb, 1, none⟩ = some (.int .i64 Nn) ∧ Blk wq ob #[.int .i64 kd, .int .i64 wh, .int .i64 a, .string ⟨n.toArray⟩, .int .i64 d, .int .i64 u] 38) (({ X with drawn := X.drawn + 1 } : World)) := ⟨x1, HBO.out⟩
  refine lyp F0 rfl HCC rfl (by omega) (wanted_none rfl) (v := Value.pointer (some ⟨ob, 2, none⟩)) (fun wr hwr => by simp only [execOp, (F0.eval 3 (by omega)).trans (show _ = Value.pointer (some ⟨ob, 0, none⟩) from by simp [upd, ee0, ee3])]; simp [go_sem]) fun F1 => ?_
  refine lyp F1 rfl HCC rfl (by omega) (wanted_none rfl) (v := Value.int .i64 a) (fun wr hwr => by simp only [execOp, (F1.eval 12 (by omega)).trans (show _ = Value.pointer (some ⟨ob, 2, none⟩) from by simp [upd, ee0, ee3])]; simp [go_sem, show wr.cell? ⟨ob, 2, none⟩ = some (.int .i64 a) from hwr.2.cell 2]) fun F2 => ?_
  refine lyp F2 rfl HCC rfl (by omega) (wanted_none rfl) (v := Value.pointer (some ⟨i.pb, 0, none⟩)) (fun wr hwr => by simp only [execOp, (F2.eval 0 (by omega)).trans (show _ = Value.pointer (some ⟨i.pb, 0, none⟩) from by simp [upd, ee0, ee3])]; first | rfl | simp [go_sem]) fun F3 => ?_
  refine lyp F3 rfl HCC rfl (by omega) (wanted_none rfl) (v := Value.pointer (some ⟨i.pb, 0, none⟩)) (fun wr hwr => by simp only [execOp, (F3.eval 14 (by omega)).trans (show _ = Value.pointer (some ⟨i.pb, 0, none⟩) from by simp [upd, ee0, ee3])]; simp [go_sem]) fun F4 => ?_
  refine lyp F4 rfl HCC rfl (by omega) (wanted_none rfl) (v := Value.pointer (some ⟨i.pb, 1, none⟩)) (fun wr hwr => by simp only [execOp, (F4.eval 15 (by omega)).trans (show _ = Value.pointer (some ⟨i.pb, 0, none⟩) from by simp [upd, ee0, ee3])]; simp [go_sem]) fun F5 => ?_
  refine lyp F5 rfl HCC rfl (by omega) (wanted_none rfl) (v := Value.int .i64 Nn) (fun wr hwr => by simp only [execOp, (F5.eval 16 (by omega)).trans (show _ = Value.pointer (some ⟨i.pb, 1, none⟩) from by simp [upd, ee0, ee3])]; simp [go_sem, hwr.1]) fun F6 => ?_
  refine lyp F6 rfl HCC rfl (by omega) (wanted_none rfl) (v := Value.int .i64 N1) (fun wr hwr => by simp only [execOp, (F6.eval 17 (by omega)).trans (show _ = Value.int .i64 Nn from by simp [upd, ee0, ee3])]; simp [go_sem, Act.eval, hN1]) fun F7 => ?_
  refine lcp F7 rfl HCC rfl (by omega) (wanted_none rfl) (g := 8) (args := #[Value.int .i64 a, Value.int .i64 0, Value.int .i64 N1]) (by simp only [execOp, resolve, invoke, List.map_toArray, List.map_cons, List.map_nil, (F7.eval 13 (by omega)).trans (show _ = Value.int .i64 a from by simp [upd, ee0, ee3]), (F7.eval 18 (by omega)).trans (show _ = Value.int .i64 N1 from by simp [upd, ee0, ee3])]; simp [go_sem, Act.eval]) (HWI.out (({ X with drawn := X.drawn + 1 } : World))) ?_
  rintro e9 w2 ⟨rfl, hw2⟩
  refine ⟨_, rfl, fun F8 => ?_⟩
  have HC2 : (fun wq => wq.cell? ⟨i.pb, 1, none⟩ = some (.int .i64 Nn) ∧ Blk wq ob #[.int .i64 kd, .int .i64 wh, .int .i64 a, .string ⟨n.toArray⟩, .int .i64 d, .int .i64 u] 38) w2 := by rw [hw2]; exact HCC
  refine lyp F8 rfl HC2 rfl (by omega) (wanted_none rfl) (v := Value.int .i64 r) (fun wr hwr => by simp only [execOp, (F8.eval 19 (by omega)).trans (show _ = Value.int .i64 r from by simp [upd, ee0, ee3])]; first | rfl | simp [go_sem]) fun F9 => ?_
  refine ⟨fun _ => HC2, ?_⟩
  refine hK _ _ ?_
  clear F0 F1 F2 F3 F4 F5 F6 F7 F8 F9 ee0 ee3 HCC HC2
  simp only [Act.put, List.setIfInBounds_toArray, List.set_cons_succ, List.set_cons_zero]
  have hb2 : Below X.heap.size X w2 := by rw [hw2]; exact Below.drew (Below.refl _ _)
  have HS2 : Hid (PS L0 i x.gv x.vv w x.ver x.L x.A x.gv x.s x.s x.VL x.VA x.vv w2) := HS0.out.more hb2
  have HB2 : Hid (Blk w2 ob #[.int .i64 kd, .int .i64 wh, .int .i64 a, .string ⟨n.toArray⟩, .int .i64 d, .int .i64 u] 38) := HBO.out.below hb2 HBO.out.lt
  clear hb2 hw2 HS0 HBO x1 HWI
  have y0 : w2.cell? ⟨i.pb, 0, none⟩ = some (.int .i64 i.me) := HS2.out.box.cell 0
  subst hrr
  go_wp2_with fail
  rename_i K hK
  try rw [show ∀ a : Act, a.put none undef = a from fun _ => rfl]
  refine wp_region_mix (fun wq => wq.cell? ⟨i.pb, 5, none⟩ = some (.pointer (some ⟨i.hb, 0, none⟩)) ∧ Blk wq ob #[.int .i64 kd, .int .i64 wh, .int .i64 a, .string ⟨n.toArray⟩, .int .i64 d, .int .i64 u] 38) (fun i => i == 8 || i == 99) 99 (by kernel_rfl) rfl (by kernel_rfl) (by kernel_rfl) (by kernel_rfl) ?_
  refine withFrP (N := 92) rfl ?_
  intro f0 F0 hff
  have ee0 : f0 0 = Value.pointer (some ⟨i.pb, 0, none⟩) := hff 0
  have ee3 : f0 3 = Value.pointer (some ⟨ob, 0, none⟩) := hff 3
  have ee5 : f0 5 = Value.int .i64 i.me := hff 5
  clear hff
  have HCC : (fun wq => wq.cell? ⟨i.pb, 5, none⟩ = some (.pointer (some ⟨i.hb, 0, none⟩)) ∧ Blk wq ob #[.int .i64 kd, .int .i64 wh, .int .i64 a, .string ⟨n.toArray⟩, .int .i64 d, .int .i64 u] 38) (({ w2 with drawn := w2.drawn + 1 } : World)) := ⟨HS2.out.box.cell 5, HB2.out⟩
  have HSD := HS2.out.more (show Below w2.heap.size w2 (({ w2 with drawn := w2.drawn + 1 } : World)) from Below.drew (Below.refl _ _))
  have hoD : Blk (({ w2 with drawn := w2.drawn + 1 } : World)) ob #[.int .i64 kd, .int .i64 wh, .int .i64 a, .string ⟨n.toArray⟩, .int .i64 d, .int .i64 u] 38 := HB2.out
  refine lyp F0 rfl HCC rfl (by omega) (wanted_none rfl) (v := Value.pointer (some ⟨i.pb, 0, none⟩)) (fun wr hwr => by simp only [execOp, (F0.eval 0 (by omega)).trans (show _ = Value.pointer (some ⟨i.pb, 0, none⟩) from by simp [upd, ee0, ee3, ee5])]; first | rfl | simp [go_sem]) fun F1 => ?_
  refine lyp F1 rfl HCC rfl (by omega) (wanted_none rfl) (v := Value.pointer (some ⟨i.pb, 0, none⟩)) (fun wr hwr => by simp only [execOp, (F1.eval 26 (by omega)).trans (show _ = Value.pointer (some ⟨i.pb, 0, none⟩) from by simp [upd, ee0, ee3, ee5])]; simp [go_sem]) fun F2 => ?_
  refine lyp F2 rfl HCC rfl (by omega) (wanted_none rfl) (v := Value.pointer (some ⟨i.pb, 5, none⟩)) (fun wr hwr => by simp only [execOp, (F2.eval 27 (by omega)).trans (show _ = Value.pointer (some ⟨i.pb, 0, none⟩) from by simp [upd, ee0, ee3, ee5])]; simp [go_sem]) fun F3 => ?_
  refine lyp F3 rfl HCC rfl (by omega) (wanted_none rfl) (v := Value.pointer (some ⟨i.hb, 0, none⟩)) (fun wr hwr => by simp only [execOp, (F3.eval 28 (by omega)).trans (show _ = Value.pointer (some ⟨i.pb, 5, none⟩) from by simp [upd, ee0, ee3, ee5])]; simp [go_sem, hwr.1]) fun F4 => ?_
  refine lyp F4 rfl HCC rfl (by omega) (wanted_none rfl) (v := Value.pointer (some ⟨ob, 3, none⟩)) (fun wr hwr => by simp only [execOp, (F4.eval 3 (by omega)).trans (show _ = Value.pointer (some ⟨ob, 0, none⟩) from by simp [upd, ee0, ee3, ee5])]; simp [go_sem]) fun F5 => ?_
  refine lyp F5 rfl HCC rfl (by omega) (wanted_none rfl) (v := Value.string ⟨n.toArray⟩) (fun wr hwr => by simp only [execOp, (F5.eval 30 (by omega)).trans (show _ = Value.pointer (some ⟨ob, 3, none⟩) from by simp [upd, ee0, ee3, ee5])]; simp [go_sem, show wr.cell? ⟨ob, 3, none⟩ = some (.string ⟨n.toArray⟩) from hwr.2.cell 3]) fun F6 => ?_
  refine lyp F6 rfl HCC rfl (by omega) (wanted_none rfl) (v := Value.pointer (some ⟨ob, 4, none⟩)) (fun wr hwr => by simp only [execOp, (F6.eval 3 (by omega)).trans (show _ = Value.pointer (some ⟨ob, 0, none⟩) from by simp [upd, ee0, ee3, ee5])]; simp [go_sem]) fun F7 => ?_
  refine lyp F7 rfl HCC rfl (by omega) (wanted_none rfl) (v := Value.agg #[.int .i64 d, .int .i64 u]) (fun wr hwr => by simp only [execOp, (F7.eval 32 (by omega)).trans (show _ = Value.pointer (some ⟨ob, 4, none⟩) from by simp [upd, ee0, ee3, ee5])]; simp [go_sem, show wr.cell? ⟨ob, 4, none⟩ = some (.int .i64 d) from hwr.2.cell 4, show wr.cell? ⟨ob, 5, none⟩ = some (.int .i64 u) from hwr.2.cell 5]) fun F8 => ?_
  refine lcp F8 rfl HCC rfl (by omega) (wanted_none rfl) (g := 53) (args := #[Value.pointer (some ⟨i.hb, 0, none⟩), Value.string ⟨n.toArray⟩, Value.int .i64 1099511627776, Value.int .i64 0, Value.agg #[.int .i64 d, .int .i64 u], Value.int .i64 0]) (by simp only [execOp, resolve, invoke, List.map_toArray, List.map_cons, List.map_nil, (F8.eval 29 (by omega)).trans (show _ = Value.pointer (some ⟨i.hb, 0, none⟩) from by simp [upd, ee0, ee3, ee5]), (F8.eval 31 (by omega)).trans (show _ = Value.string ⟨n.toArray⟩ from by simp [upd, ee0, ee3, ee5]), (F8.eval 33 (by omega)).trans (show _ = Value.agg #[.int .i64 d, .int .i64 u] from by simp [upd, ee0, ee3, ee5])]; simp [go_sem, Act.eval]) (HTL.out (({ w2 with drawn := w2.drawn + 1 } : World)) HSD.vw) ?_
  rintro e9 w3 ⟨rfl, hV3, hc3⟩
  refine ⟨_, rfl, fun F9 => ?_⟩
  have HSE := HSD.setV hV3 hc3
  have hoE : Blk w3 ob #[.int .i64 kd, .int .i64 wh, .int .i64 a, .string ⟨n.toArray⟩, .int .i64 d, .int .i64 u] 38 := hc3.blk hoD (HSD.vw.map.ne_b hoD)
  have HC2 : (fun wq => wq.cell? ⟨i.pb, 5, none⟩ = some (.pointer (some ⟨i.hb, 0, none⟩)) ∧ Blk wq ob #[.int .i64 kd, .int .i64 wh, .int .i64 a, .string ⟨n.toArray⟩, .int .i64 d, .int .i64 u] 38) w3 := ⟨HSE.box.cell 5, hoE⟩
  refine lyp F9 rfl HC2 rfl (by omega) (wanted_none rfl) (v := Value.int .i64 cd) (fun wr hwr => by simp only [execOp, (F9.eval 34 (by omega)).trans (show _ = Value.int .i64 cd from by simp [upd, ee0, ee3, ee5])]; first | rfl | simp [go_sem]) fun F10 => ?_
  refine ⟨fun _ => HC2, ?_⟩
  first | refine hK _ _ ?_ | skip
  clear F0 F1 F2 F3 F4 F5 F6 F7 F8 F9 F10 ee0 ee3 ee5 HCC HC2 HSD hoD hV3 hc3
  simp only [Act.put, List.setIfInBounds_toArray, List.set_cons_succ, List.set_cons_zero]
  have HS3 : Hid (PS L0 i x.gv x.vv w x.ver x.L x.A x.gv x.s x.s VL1 x.VA x.vv w3) := HSE
  have HB3 : Hid (Blk w3 ob #[.int .i64 kd, .int .i64 wh, .int .i64 a, .string ⟨n.toArray⟩, .int .i64 d, .int .i64 u] 38) := hoE
  clear HSE hoE HTL HS2 HB2 y0
  go_wp2_with fail
  rename_i K hK
  try rw [show ∀ a : Act, a.put none undef = a from fun _ => rfl]
  refine wp_region_mix (fun wq => wq.cell? ⟨i.pb, 8, none⟩ = some (.pointer (some ⟨i.rb, 0, none⟩)) ∧ Blk wq ob #[.int .i64 kd, .int .i64 wh, .int .i64 a, .string ⟨n.toArray⟩, .int .i64 d, .int .i64 u] 38) (fun i => i == 9 || i == 99) 99 (by kernel_rfl) rfl (by kernel_rfl) (by kernel_rfl) (by kernel_rfl) ?_
  refine withFrP (N := 92) rfl ?_
  intro f0 F0 hff
  have ee0 : f0 0 = Value.pointer (some ⟨i.pb, 0, none⟩) := hff 0
  have ee3 : f0 3 = Value.pointer (some ⟨ob, 0, none⟩) := hff 3
  have ee5 : f0 5 = Value.int .i64 i.me := hff 5
  have ee6 : f0 6 = Value.int .i64 cd := hff 6
  clear hff
  have HCC : (fun wq => wq.cell? ⟨i.pb, 8, none⟩ = some (.pointer (some ⟨i.rb, 0, none⟩)) ∧ Blk wq ob #[.int .i64 kd, .int .i64 wh, .int .i64 a, .string ⟨n.toArray⟩, .int .i64 d, .int .i64 u] 38) (({ w3 with drawn := w3.drawn + 1 } : World)) := ⟨HS3.out.box.cell 8, HB3.out⟩
  have HSD := HS3.out.more (show Below w3.heap.size w3 (({ w3 with drawn := w3.drawn + 1 } : World)) from Below.drew (Below.refl _ _))
  have hoD : Blk (({ w3 with drawn := w3.drawn + 1 } : World)) ob #[.int .i64 kd, .int .i64 wh, .int .i64 a, .string ⟨n.toArray⟩, .int .i64 d, .int .i64 u] 38 := HB3.out
  refine lyp F0 rfl HCC rfl (by omega) (wanted_none rfl) (v := Value.int .i64 cd) (fun wr hwr => by simp only [execOp, (F0.eval 6 (by omega)).trans (show _ = Value.int .i64 cd from by simp [upd, ee0, ee3, ee5, ee6])]; first | rfl | simp [go_sem]) fun F1 => ?_
  refine lyp F1 rfl HCC rfl (by omega) (wanted_none rfl) (v := Value.pointer (some ⟨i.pb, 0, none⟩)) (fun wr hwr => by simp only [execOp, (F1.eval 0 (by omega)).trans (show _ = Value.pointer (some ⟨i.pb, 0, none⟩) from by simp [upd, ee0, ee3, ee5, ee6])]; first | rfl | simp [go_sem]) fun F2 => ?_
  refine lyp F2 rfl HCC rfl (by omega) (wanted_none rfl) (v := Value.pointer (some ⟨i.pb, 0, none⟩)) (fun wr hwr => by simp only [execOp, (F2.eval 36 (by omega)).trans (show _ = Value.pointer (some ⟨i.pb, 0, none⟩) from by simp [upd, ee0, ee3, ee5, ee6])]; simp [go_sem]) fun F3 => ?_
  refine lyp F3 rfl HCC rfl (by omega) (wanted_none rfl) (v := Value.pointer (some ⟨i.pb, 8, none⟩)) (fun wr hwr => by simp only [execOp, (F3.eval 37 (by omega)).trans (show _ = Value.pointer (some ⟨i.pb, 0, none⟩) from by simp [upd, ee0, ee3, ee5, ee6])]; simp [go_sem]) fun F4 => ?_
  refine lyp F4 rfl HCC rfl (by omega) (wanted_none rfl) (v := Value.pointer (some ⟨i.rb, 0, none⟩)) (fun wr hwr => by simp only [execOp, (F4.eval 38 (by omega)).trans (show _ = Value.pointer (some ⟨i.pb, 8, none⟩) from by simp [upd, ee0, ee3, ee5, ee6])]; simp [go_sem, hwr.1]) fun F5 => ?_
  refine lyp F5 rfl HCC rfl (by omega) (wanted_none rfl) (v := Value.pointer (some ⟨ob, 3, none⟩)) (fun wr hwr => by simp only [execOp, (F5.eval 3 (by omega)).trans (show _ = Value.pointer (some ⟨ob, 0, none⟩) from by simp [upd, ee0, ee3, ee5, ee6])]; simp [go_sem]) fun F6 => ?_
  refine lyp F6 rfl HCC rfl (by omega) (wanted_none rfl) (v := Value.string ⟨n.toArray⟩) (fun wr hwr => by simp only [execOp, (F6.eval 40 (by omega)).trans (show _ = Value.pointer (some ⟨ob, 3, none⟩) from by simp [upd, ee0, ee3, ee5, ee6])]; simp [go_sem, show wr.cell? ⟨ob, 3, none⟩ = some (.string ⟨n.toArray⟩) from hwr.2.cell 3]) fun F7 => ?_
  refine lyp F7 rfl HCC rfl (by omega) (wanted_none rfl) (v := Value.pointer (some ⟨ob, 4, none⟩)) (fun wr hwr => by simp only [execOp, (F7.eval 3 (by omega)).trans (show _ = Value.pointer (some ⟨ob, 0, none⟩) from by simp [upd, ee0, ee3, ee5, ee6])]; simp [go_sem]) fun F8 => ?_
  refine lyp F8 rfl HCC rfl (by omega) (wanted_none rfl) (v := Value.agg #[.int .i64 d, .int .i64 u]) (fun wr hwr => by simp only [execOp, (F8.eval 42 (by omega)).trans (show _ = Value.pointer (some ⟨ob, 4, none⟩) from by simp [upd, ee0, ee3, ee5, ee6])]; simp [go_sem, show wr.cell? ⟨ob, 4, none⟩ = some (.int .i64 d) from hwr.2.cell 4, show wr.cell? ⟨ob, 5, none⟩ = some (.int .i64 u) from hwr.2.cell 5]) fun F9 => ?_
  refine lcp F9 rfl HCC rfl (by omega) (wanted_none rfl) (g := 54) (args := #[Value.pointer (some ⟨i.rb, 0, none⟩), Value.string ⟨n.toArray⟩, Value.int .i64 1099511627776, Value.int .i64 0, Value.agg #[.int .i64 d, .int .i64 u], Value.int .i64 0]) (by simp only [execOp, resolve, invoke, List.map_toArray, List.map_cons, List.map_nil, (F9.eval 39 (by omega)).trans (show _ = Value.pointer (some ⟨i.rb, 0, none⟩) from by simp [upd, ee0, ee3, ee5, ee6]), (F9.eval 41 (by omega)).trans (show _ = Value.string ⟨n.toArray⟩ from by simp [upd, ee0, ee3, ee5, ee6]), (F9.eval 43 (by omega)).trans (show _ = Value.agg #[.int .i64 d, .int .i64 u] from by simp [upd, ee0, ee3, ee5, ee6])]; simp [go_sem, Act.eval]) (HRT.out (({ w3 with drawn := w3.drawn + 1 } : World)) x.vv HSD.rv) ?_
  rintro e9 w4 ⟨rfl, ⟨vv', hR4, hat4⟩, hc4⟩
  refine ⟨_, rfl, fun F10 => ?_⟩
  have HSE := HSD.setRV1 hR4 hat4 hc4
  have hoE : Blk w4 ob #[.int .i64 kd, .int .i64 wh, .int .i64 a, .string ⟨n.toArray⟩, .int .i64 d, .int .i64 u] 38 := hc4.blk hoD (fun e => e.elim (fun e => Blk.ne_t hoD HSD.rv.blk (by decide) e) (fun e => HSD.rv.own_ne' hoD (by decide) e))
  have HC2 : (fun wq => wq.cell? ⟨i.pb, 8, none⟩ = some (.pointer (some ⟨i.rb, 0, none⟩)) ∧ Blk wq ob #[.int .i64 kd, .int .i64 wh, .int .i64 a, .string ⟨n.toArray⟩, .int .i64 d, .int .i64 u] 38) w4 := ⟨HSE.box.cell 8, hoE⟩
  refine lyp F10 rfl HC2 rfl (by omega) (wanted_none rfl) (v := Value.bool true) (fun wr hwr => by simp only [execOp, (F10.eval 35 (by omega)).trans (show _ = Value.int .i64 cd from by simp [upd, ee0, ee3, ee5, ee6]), (F10.eval 44 (by omega)).trans (show _ = Value.int .i64 cd from by simp [upd, ee0, ee3, ee5, ee6])]; simp [go_sem, Act.eval]) fun F11 => ?_
  refine lyp F11 rfl HC2 rfl (by omega) (wanted_none rfl) (v := Value.bool true) (fun wr hwr => by simp only [execOp, (F11.eval 45 (by omega)).trans (show _ = Value.bool true from by simp [upd, ee0, ee3, ee5, ee6])]; first | rfl | simp [go_sem]) fun F12 => ?_
  refine ⟨fun _ => HC2, ?_⟩
  first | refine hK _ _ ?_ | skip
  clear F0 F1 F2 F3 F4 F5 F6 F7 F8 F9 F10 F11 F12 ee0 ee3 ee5 ee6 HCC HC2 HSD hoD hR4 hat4 hc4
  simp only [Act.put, List.setIfInBounds_toArray, List.set_cons_succ, List.set_cons_zero]
  have HS9 : Hid (PS L0 i x.gv x.vv w x.ver x.L x.A x.gv x.s x.s VL1 VA1 vv' w4) := HSE
  clear HSE hoE HRT HS3 HB3
  go_wp2_with fail
  go_ret
  exact ⟨rfl, vv', HFIN.out _ _ HS9.out, HS9.out.new⟩
end Go.Proofs.YtjmbhaoehfdpoaaDoor
namespace Go.Proofs.YtjmbhaoehfdpoaaDoor
open Go.RowKit Go.PlainAid Go.MapKept
set_option linter.unusedVariables false
set_option linter.unusedSimpArgs false
set_option maxRecDepth 100000 in
set_option maxHeartbeats 6400000 in
theorem played_6 {S : Led.Sens} {Ls L0 M : Nat} {i : PIx} {x : PVl} (kd wh a : Int) (n : List UInt8) (d u : Int) (w : World) (h : PI L0 M i x w) (hS : Led.Sen S Ls w) (hL : Ls ≤ L0) (hk : kd = 6) :
    Calls Tryd.prog 18 #[.pointer (some ⟨i.pb, 0, none⟩), .agg #[.int .i64 kd, .int .i64 wh, .int .i64 a, .string ⟨n.toArray⟩, .int .i64 d, .int .i64 u]] w fun e w' => e = .returned (.bool true) ∧ PI L0 (M + 1) i ⟨x.ver, x.L, x.A, x.gv, x.s.onext d u, x.VL, x.VA, x.vv⟩ w' ∧ PNew i x.gv x.vv x.gv x.vv w w' := by
  obtain ⟨ob, hob⟩ : ∃ ob, ob = w.heap.size := ⟨_, rfl⟩
  obtain ⟨X, hX⟩ : ∃ X, X = w.alloc (.cells #[.int .i64 kd, .int .i64 wh, .int .i64 a, .string ⟨n.toArray⟩, .int .i64 d, .int .i64 u] 38) := ⟨_, rfl⟩
  have hbX : Below w.heap.size w X := by rw [hX]; exact (Below.refl _ _).alloc (Nat.le_refl _) _
  have HBX : Hid (Below w.heap.size w X) := hbX
  have HBO : Hid (Blk X ob #[.int .i64 kd, .int .i64 wh, .int .i64 a, .string ⟨n.toArray⟩, .int .i64 d, .int .i64 u] 38) := show Blk X ob #[.int .i64 kd, .int .i64 wh, .int .i64 a, .string ⟨n.toArray⟩, .int .i64 d, .int .i64 u] 38 from by rw [hX, hob]; exact heap_alloc_new w _
  have HS0 : Hid (PS L0 i x.gv x.vv w x.ver x.L x.A x.gv x.s x.s x.VL x.VA x.vv X) := h.ps.more hbX
  have x0 : X.cell? ⟨ob, 0, none⟩ = some (.int .i64 kd) := HBO.out.cell 0
  have hlo := h.lo
  have hLw : Ls ≤ w.heap.size := by have := h.box.lt; omega
  have HIN : Hid (∀ W, Below X.heap.size X W → Blk W i.lb x.s.cs 63 → Calls Tryd.prog 37 #[.pointer (some ⟨i.lb, 0, none⟩), .agg #[.int .i64 d, .int .i64 u]] W fun r w' => r = .returned (.int .i64 (x.s.ocode d u)) ∧ Blk w' i.lb (x.s.onext d u).cs 63 ∧ Led.Stq i.lb W w') := fun W hb hB => Led.out_any W (hS.below ((hbX.trans (hb.mono hbX.size)).mono hLw)) hB h.ok (by omega) d u
  have HRI : Hid (∀ W, Blk W i.kb x.s.cs 94 → Calls Tryd.prog 38 #[.pointer (some ⟨i.kb, 0, none⟩), .agg #[.int .i64 d, .int .i64 u]] W fun r w' => r = .returned (.int .i64 (x.s.ocode d u)) ∧ Blk w' i.kb (x.s.onext d u).cs 94 ∧ Led.Stq i.kb W w') := fun W hB => Led.rout_any W hB h.ok d u
  have HFIN : Hid (∀ w', PS L0 i x.gv x.vv w x.ver x.L x.A x.gv (x.s.onext d u) (x.s.onext d u) x.VL x.VA x.vv w' → PI L0 (M + 1) i ⟨x.ver, x.L, x.A, x.gv, x.s.onext d u, x.VL, x.VA, x.vv⟩ w') := fun w' q => ⟨by have := q.box; unfold pbox at this; exact this, q.gs, q.rg, q.ld, q.rl, Led.LS.onext_ok _ h.ok d u, q.vw, q.rv, h.ag.mono (Nat.le_succ _), by show x.VA.length ≤ 128 * (M + 1); have := h.al; omega, Nat.le_succ_of_le h.ver, h.kd, h.lo', h.lg, Nat.le_succ_of_le h.gl, h.ne, h.lo⟩
  generalize x.s.onext d u = s1 at *
  generalize x.s.ocode d u = cd at *
  subst hk
  clear h hS hL hlo hLw hbX
  go_enter Tryd.func18, Tryd.ntmps18
  go_upto_region 1 with fail
  rw [← hX, ← hob]
  clear hX hob
  go_wp2_with fail
  rename_i K hK
  try rw [show ∀ a : Act, a.put none undef = a from fun _ => rfl]
  refine wp_region_mix (fun wq => wq.cell? ⟨i.pb, 4, none⟩ = some (.pointer (some ⟨i.lb, 0, none⟩)) ∧ Blk wq ob #[.int .i64 6, .int .i64 wh, .int .i64 a, .string ⟨n.toArray⟩, .int .i64 d, .int .i64 u] 38) (fun i => i == 6 || i == 99) 99 (by kernel_rfl) rfl (by kernel_rfl) (by kernel_rfl) (by kernel_rfl) ?_
  refine withFrP (N := 133) rfl ?_
  intro f0 F0 hff
  have ee0 : f0 0 = Value.pointer (some ⟨i.pb, 0, none⟩) := hff 0
  have ee3 : f0 3 = Value.pointer (some ⟨ob, 0, none⟩) := hff 3
  clear hff
  have HCC : (fun wq => wq.cell? ⟨i.pb, 4, none⟩ = some (.pointer (some ⟨i.lb, 0, none⟩)) ∧ Blk wq ob #[.int .i64 6, .int .i64 wh, .int .i64 a, .string ⟨n.toArray⟩, .int .i64 d, .int .i64 u] 38) (({ X with drawn := X.drawn + 1 } : World)) := ⟨HS0.out.box.cell 4, HBO.out⟩
  have HSD := HS0.out.more (show Below X.heap.size X (({ X with drawn := X.drawn + 1 } : World)) from Below.drew (Below.refl _ _))
  have hoD : Blk (({ X with drawn := X.drawn + 1 } : World)) ob #[.int .i64 6, .int .i64 wh, .int .i64 a, .string ⟨n.toArray⟩, .int .i64 d, .int .i64 u] 38 := HBO.out
  refine lyp F0 rfl HCC rfl (by omega) (wanted_none rfl) (v := Value.pointer (some ⟨i.pb, 0, none⟩)) (fun wr hwr => by simp only [execOp, (F0.eval 0 (by omega)).trans (show _ = Value.pointer (some ⟨i.pb, 0, none⟩) from by simp [upd, ee0, ee3])]; first | rfl | simp [go_sem]) fun F1 => ?_
  refine lyp F1 rfl HCC rfl (by omega) (wanted_none rfl) (v := Value.pointer (some ⟨i.pb, 0, none⟩)) (fun wr hwr => by simp only [execOp, (F1.eval 112 (by omega)).trans (show _ = Value.pointer (some ⟨i.pb, 0, none⟩) from by simp [upd, ee0, ee3])]; simp [go_sem]) fun F2 => ?_
  refine lyp F2 rfl HCC rfl (by omega) (wanted_none rfl) (v := Value.pointer (some ⟨i.pb, 4, none⟩)) (fun wr hwr => by simp only [execOp, (F2.eval 113 (by omega)).trans (show _ = Value.pointer (some ⟨i.pb, 0, none⟩) from by simp [upd, ee0, ee3])]; simp [go_sem]) fun F3 => ?_
  refine lyp F3 rfl HCC rfl (by omega) (wanted_none rfl) (v := Value.pointer (some ⟨i.lb, 0, none⟩)) (fun wr hwr => by simp only [execOp, (F3.eval 114 (by omega)).trans (show _ = Value.pointer (some ⟨i.pb, 4, none⟩) from by simp [upd, ee0, ee3])]; simp [go_sem, hwr.1]) fun F4 => ?_
  refine lyp F4 rfl HCC rfl (by omega) (wanted_none rfl) (v := Value.pointer (some ⟨ob, 4, none⟩)) (fun wr hwr => by simp only [execOp, (F4.eval 3 (by omega)).trans (show _ = Value.pointer (some ⟨ob, 0, none⟩) from by simp [upd, ee0, ee3])]; simp [go_sem]) fun F5 => ?_
  refine lyp F5 rfl HCC rfl (by omega) (wanted_none rfl) (v := Value.agg #[.int .i64 d, .int .i64 u]) (fun wr hwr => by simp only [execOp, (F5.eval 116 (by omega)).trans (show _ = Value.pointer (some ⟨ob, 4, none⟩) from by simp [upd, ee0, ee3])]; simp [go_sem, show wr.cell? ⟨ob, 4, none⟩ = some (.int .i64 d) from hwr.2.cell 4, show wr.cell? ⟨ob, 5, none⟩ = some (.int .i64 u) from hwr.2.cell 5]) fun F6 => ?_
  refine lcp F6 rfl HCC rfl (by omega) (wanted_none rfl) (g := 37) (args := #[Value.pointer (some ⟨i.lb, 0, none⟩), Value.agg #[.int .i64 d, .int .i64 u]]) (by simp only [execOp, resolve, invoke, List.map_toArray, List.map_cons, List.map_nil, (F6.eval 115 (by omega)).trans (show _ = Value.pointer (some ⟨i.lb, 0, none⟩) from by simp [upd, ee0, ee3]), (F6.eval 117 (by omega)).trans (show _ = Value.agg #[.int .i64 d, .int .i64 u] from by simp [upd, ee0, ee3])]; simp [go_sem, Act.eval]) (HIN.out (({ X with drawn := X.drawn + 1 } : World)) (Below.drew (Below.refl X.heap.size X)) HSD.ld) ?_
  rintro e9 w2 ⟨rfl, hG2, hc2⟩
  refine ⟨_, rfl, fun F7 => ?_⟩
  -- TAG:w2
  have HSE := HSD.setLd hG2 (Stq_chg hc2)
  have hoE : Blk w2 ob #[.int .i64 6, .int .i64 wh, .int .i64 a, .string ⟨n.toArray⟩, .int .i64 d, .int .i64 u] 38 := (Stq_chg hc2).blk hoD (Blk.ne_t hoD HSD.ld (by decide))
  have HC2 : (fun wq => wq.cell? ⟨i.pb, 4, none⟩ = some (.pointer (some ⟨i.lb, 0, none⟩)) ∧ Blk wq ob #[.int .i64 6, .int .i64 wh, .int .i64 a, .string ⟨n.toArray⟩, .int .i64 d, .int .i64 u] 38) w2 := ⟨HSE.box.cell 4, hoE⟩
  refine lyp F7 rfl HC2 rfl (by omega) (wanted_none rfl) (v := Value.int .i64 cd) (fun wr hwr => by simp only [execOp, (F7.eval 118 (by omega)).trans (show _ = Value.int .i64 cd from by simp [upd, ee0, ee3])]; first | rfl | simp [go_sem]) fun F8 => ?_
  refine ⟨fun _ => HC2, ?_⟩
  first | refine hK _ _ ?_ | skip
  clear F0 F1 F2 F3 F4 F5 F6 F7 F8 ee0 ee3 HCC HC2 HSD hoD hG2 hc2
  simp only [Act.put, List.setIfInBounds_toArray, List.set_cons_succ, List.set_cons_zero]
  have HS2 : Hid (PS L0 i x.gv x.vv w x.ver x.L x.A x.gv s1 x.s x.VL x.VA x.vv w2) := HSE
  have HB2 : Hid (Blk w2 ob #[.int .i64 6, .int .i64 wh, .int .i64 a, .string ⟨n.toArray⟩, .int .i64 d, .int .i64 u] 38) := hoE
  clear HSE hoE HIN HS0 HBO x0
  go_wp2_with fail
  rename_i K hK
  try rw [show ∀ a : Act, a.put none undef = a from fun _ => rfl]
  refine wp_region_mix (fun wq => wq.cell? ⟨i.pb, 7, none⟩ = some (.pointer (some ⟨i.kb, 0, none⟩)) ∧ Blk wq ob #[.int .i64 6, .int .i64 wh, .int .i64 a, .string ⟨n.toArray⟩, .int .i64 d, .int .i64 u] 38) (fun i => i == 7 || i == 99) 99 (by kernel_rfl) rfl (by kernel_rfl) (by kernel_rfl) (by kernel_rfl) ?_
  refine withFrP (N := 133) rfl ?_
  intro f0 F0 hff
  have ee0 : f0 0 = Value.pointer (some ⟨i.pb, 0, none⟩) := hff 0
  have ee3 : f0 3 = Value.pointer (some ⟨ob, 0, none⟩) := hff 3
  have ee7 : f0 7 = Value.int .i64 cd := hff 7
  clear hff
  have HCC : (fun wq => wq.cell? ⟨i.pb, 7, none⟩ = some (.pointer (some ⟨i.kb, 0, none⟩)) ∧ Blk wq ob #[.int .i64 6, .int .i64 wh, .int .i64 a, .string ⟨n.toArray⟩, .int .i64 d, .int .i64 u] 38) (({ w2 with drawn := w2.drawn + 1 } : World)) := ⟨HS2.out.box.cell 7, HB2.out⟩
  have HSD := HS2.out.more (show Below w2.heap.size w2 (({ w2 with drawn := w2.drawn + 1 } : World)) from Below.drew (Below.refl _ _))
  have hoD : Blk (({ w2 with drawn := w2.drawn + 1 } : World)) ob #[.int .i64 6, .int .i64 wh, .int .i64 a, .string ⟨n.toArray⟩, .int .i64 d, .int .i64 u] 38 := HB2.out
  refine lyp F0 rfl HCC rfl (by omega) (wanted_none rfl) (v := Value.int .i64 cd) (fun wr hwr => by simp only [execOp, (F0.eval 7 (by omega)).trans (show _ = Value.int .i64 cd from by simp [upd, ee0, ee3, ee7])]; first | rfl | simp [go_sem]) fun F1 => ?_
  refine lyp F1 rfl HCC rfl (by omega) (wanted_none rfl) (v := Value.pointer (some ⟨i.pb, 0, none⟩)) (fun wr hwr => by simp only [execOp, (F1.eval 0 (by omega)).trans (show _ = Value.pointer (some ⟨i.pb, 0, none⟩) from by simp [upd, ee0, ee3, ee7])]; first | rfl | simp [go_sem]) fun F2 => ?_
  refine lyp F2 rfl HCC rfl (by omega) (wanted_none rfl) (v := Value.pointer (some ⟨i.pb, 0, none⟩)) (fun wr hwr => by simp only [execOp, (F2.eval 120 (by omega)).trans (show _ = Value.pointer (some ⟨i.pb, 0, none⟩) from by simp [upd, ee0, ee3, ee7])]; simp [go_sem]) fun F3 => ?_
  refine lyp F3 rfl HCC rfl (by omega) (wanted_none rfl) (v := Value.pointer (some ⟨i.pb, 7, none⟩)) (fun wr hwr => by simp only [execOp, (F3.eval 121 (by omega)).trans (show _ = Value.pointer (some ⟨i.pb, 0, none⟩) from by simp [upd, ee0, ee3, ee7])]; simp [go_sem]) fun F4 => ?_
  refine lyp F4 rfl HCC rfl (by omega) (wanted_none rfl) (v := Value.pointer (some ⟨i.kb, 0, none⟩)) (fun wr hwr => by simp only [execOp, (F4.eval 122 (by omega)).trans (show _ = Value.pointer (some ⟨i.pb, 7, none⟩) from by simp [upd, ee0, ee3, ee7])]; simp [go_sem, hwr.1]) fun F5 => ?_
  refine lyp F5 rfl HCC rfl (by omega) (wanted_none rfl) (v := Value.pointer (some ⟨ob, 4, none⟩)) (fun wr hwr => by simp only [execOp, (F5.eval 3 (by omega)).trans (show _ = Value.pointer (some ⟨ob, 0, none⟩) from by simp [upd, ee0, ee3, ee7])]; simp [go_sem]) fun F6 => ?_
  refine lyp F6 rfl HCC rfl (by omega) (wanted_none rfl) (v := Value.agg #[.int .i64 d, .int .i64 u]) (fun wr hwr => by simp only [execOp, (F6.eval 124 (by omega)).trans (show _ = Value.pointer (some ⟨ob, 4, none⟩) from by simp [upd, ee0, ee3, ee7])]; simp [go_sem, show wr.cell? ⟨ob, 4, none⟩ = some (.int .i64 d) from hwr.2.cell 4, show wr.cell? ⟨ob, 5, none⟩ = some (.int .i64 u) from hwr.2.cell 5]) fun F7 => ?_
  refine lcp F7 rfl HCC rfl (by omega) (wanted_none rfl) (g := 38) (args := #[Value.pointer (some ⟨i.kb, 0, none⟩), Value.agg #[.int .i64 d, .int .i64 u]]) (by simp only [execOp, resolve, invoke, List.map_toArray, List.map_cons, List.map_nil, (F7.eval 123 (by omega)).trans (show _ = Value.pointer (some ⟨i.kb, 0, none⟩) from by simp [upd, ee0, ee3, ee7]), (F7.eval 125 (by omega)).trans (show _ = Value.agg #[.int .i64 d, .int .i64 u] from by simp [upd, ee0, ee3, ee7])]; simp [go_sem, Act.eval]) (HRI.out (({ w2 with drawn := w2.drawn + 1 } : World)) HSD.rl) ?_
  rintro e9 w4 ⟨rfl, hG4, hc4⟩
  refine ⟨_, rfl, fun F8 => ?_⟩
  -- TAG:w4
  have HSE := HSD.setRl hG4 (Stq_chg hc4)
  have hoE : Blk w4 ob #[.int .i64 6, .int .i64 wh, .int .i64 a, .string ⟨n.toArray⟩, .int .i64 d, .int .i64 u] 38 := (Stq_chg hc4).blk hoD (Blk.ne_t hoD HSD.rl (by decide))
  have HC2 : (fun wq => wq.cell? ⟨i.pb, 7, none⟩ = some (.pointer (some ⟨i.kb, 0, none⟩)) ∧ Blk wq ob #[.int .i64 6, .int .i64 wh, .int .i64 a, .string ⟨n.toArray⟩, .int .i64 d, .int .i64 u] 38) w4 := ⟨HSE.box.cell 7, hoE⟩
  refine lyp F8 rfl HC2 rfl (by omega) (wanted_none rfl) (v := Value.bool true) (fun wr hwr => by simp only [execOp, (F8.eval 119 (by omega)).trans (show _ = Value.int .i64 cd from by simp [upd, ee0, ee3, ee7]), (F8.eval 126 (by omega)).trans (show _ = Value.int .i64 cd from by simp [upd, ee0, ee3, ee7])]; simp [go_sem, Act.eval]) fun F9 => ?_
  refine lyp F9 rfl HC2 rfl (by omega) (wanted_none rfl) (v := Value.bool true) (fun wr hwr => by simp only [execOp, (F9.eval 127 (by omega)).trans (show _ = Value.bool true from by simp [upd, ee0, ee3, ee7])]; first | rfl | simp [go_sem]) fun F10 => ?_
  refine ⟨fun _ => HC2, ?_⟩
  first | refine hK _ _ ?_ | skip
  clear F0 F1 F2 F3 F4 F5 F6 F7 F8 F9 F10 ee0 ee3 ee7 HCC HC2 HSD hoD hG4 hc4
  simp only [Act.put, List.setIfInBounds_toArray, List.set_cons_succ, List.set_cons_zero]
  have HS9 : Hid (PS L0 i x.gv x.vv w x.ver x.L x.A x.gv s1 s1 x.VL x.VA x.vv w4) := HSE
  clear HSE hoE HRI HS2 HB2
  go_wp2_with fail
  go_ret
  exact ⟨rfl, HFIN.out _ HS9.out, HS9.out.new⟩
set_option maxRecDepth 100000 in
set_option maxHeartbeats 6400000 in
theorem played_7o {L0 M : Nat} {i : PIx} {x : PVl} (kd wh a : Int) (n : List UInt8) (d u : Int) (w : World) (h : PI L0 M i x w) (hM : M ≤ 300) (hc : newCode i.me i.N = 0) (ha : -9223372036854775808 ≤ a ∧ a ≤ 9223372036854775807) (hn : n.length ≤ 140737488355328) (hd : -9223372036854775808 ≤ d ∧ d ≤ 9223372036854775807) (hu : -9223372036854775808 ≤ u ∧ u ≤ 9223372036854775807) (hr : wx a i.N = i.me) (hk : kd = 7) :
    Calls Tryd.prog 18 #[.pointer (some ⟨i.pb, 0, none⟩), .agg #[.int .i64 kd, .int .i64 wh, .int .i64 a, .string ⟨n.toArray⟩, .int .i64 d, .int .i64 u]] w fun e w' => e = .returned (.bool true) ∧ ∃ vv', PI L0 (M + 1) i ⟨x.ver, x.L, x.A, x.gv, x.s, tellNext i.me x.VL ⟨i.me, n, 1099511627776, 0, 1, d, u, 0⟩, rtellNext i.me x.VA ⟨i.me, n, 1099511627776, 0, 1, d, u, 0⟩, vv'⟩ w' ∧ PNew i x.gv x.vv x.gv vv' w w' := by
  obtain ⟨ob, hob⟩ : ∃ ob, ob = w.heap.size := ⟨_, rfl⟩
  obtain ⟨X, hX⟩ : ∃ X, X = w.alloc (.cells #[.int .i64 kd, .int .i64 wh, .int .i64 a, .string ⟨n.toArray⟩, .int .i64 d, .int .i64 u] 38) := ⟨_, rfl⟩
  have hbX : Below w.heap.size w X := by rw [hX]; exact (Below.refl _ _).alloc (Nat.le_refl _) _
  have HBX : Hid (Below w.heap.size w X) := hbX
  have HBO : Hid (Blk X ob #[.int .i64 kd, .int .i64 wh, .int .i64 a, .string ⟨n.toArray⟩, .int .i64 d, .int .i64 u] 38) := show Blk X ob #[.int .i64 kd, .int .i64 wh, .int .i64 a, .string ⟨n.toArray⟩, .int .i64 d, .int .i64 u] 38 from by rw [hX, hob]; exact heap_alloc_new w _
  have HS0 : Hid (PS L0 i x.gv x.vv w x.ver x.L x.A x.gv x.s x.s x.VL x.VA x.vv X) := h.ps.more hbX
  have x0 : X.cell? ⟨ob, 0, none⟩ = some (.int .i64 kd) := HBO.out.cell 0
  have HTE : Hid _ := tells_own kd wh a n d u X (h.more hbX) hM hc ha hn hd hu hr
  have hL38 := run_loadVar_row (P := Tryd.prog) X ob 38 38 #[.int .i64 kd, .int .i64 wh, .int .i64 a, .string ⟨n.toArray⟩, .int .i64 d, .int .i64 u] (0, 0) _ HBO.out Tryd.underlying38 rfl (by kernel_rfl)
  subst hk
  clear h hbX hM hc ha hn hd hu hr
  go_enter Tryd.func18, Tryd.ntmps18
  go_upto_region 1 with fail
  rw [← hX, ← hob]
  clear hX hob
  have x1 : X.cell? ⟨ob, 1, none⟩ = some (.int .i64 wh) := HBO.out.cell 1
  have x2 : X.cell? ⟨ob, 2, none⟩ = some (.int .i64 a) := HBO.out.cell 2
  have x3 : X.cell? ⟨ob, 3, none⟩ = some (.string ⟨n.toArray⟩) := HBO.out.cell 3
  have x4 : X.cell? ⟨ob, 4, none⟩ = some (.int .i64 d) := HBO.out.cell 4
  have x5 : X.cell? ⟨ob, 5, none⟩ = some (.int .i64 u) := HBO.out.cell 5
  clear hL38
  go_wp2_with fail
  refine Calls.mono HTE.out ?_
  rintro e9 w2 ⟨rfl, vv', hP, hN⟩
  have HP : Hid (_ ∧ _) := And.intro hP (hN.from HBX.out)
  clear hP hN HTE x0 x1 x2 x3 x4 x5
  go_wp2_with fail
  go_ret
  exact ⟨rfl, vv', HP.out.1, HP.out.2⟩
set_option maxRecDepth 100000 in
set_option maxHeartbeats 6400000 in
theorem played_0 {L0 M : Nat} {i : PIx} {x : PVl} (kd wh a : Int) (n : List UInt8) (d u : Int) (w : World) (h : PI L0 M i x w) (h1 : kd ≠ 1) (h2 : kd ≠ 2) (h3 : kd ≠ 3) (h4 : kd ≠ 4) (h5 : kd ≠ 5) (h6 : kd ≠ 6) (h7 : kd ≠ 7) :
    Calls Tryd.prog 18 #[.pointer (some ⟨i.pb, 0, none⟩), .agg #[.int .i64 kd, .int .i64 wh, .int .i64 a, .string ⟨n.toArray⟩, .int .i64 d, .int .i64 u]] w fun e w' => e = .returned (.bool true) ∧ PI L0 (M + 1) i x w' ∧ PNew i x.gv x.vv x.gv x.vv w w' := by
  obtain ⟨ob, hob⟩ : ∃ ob, ob = w.heap.size := ⟨_, rfl⟩
  obtain ⟨X, hX⟩ : ∃ X, X = w.alloc (.cells #[.int .i64 kd, .int .i64 wh, .int .i64 a, .string ⟨n.toArray⟩, .int .i64 d, .int .i64 u] 38) := ⟨_, rfl⟩
  have hbX : Below w.heap.size w X := by rw [hX]; exact (Below.refl _ _).alloc (Nat.le_refl _) _
  have hBO : Blk X ob #[.int .i64 kd, .int .i64 wh, .int .i64 a, .string ⟨n.toArray⟩, .int .i64 d, .int .i64 u] 38 := by rw [hX, hob]; exact heap_alloc_new w _
  have HP : Hid (PI L0 (M + 1) i x X ∧ PNew i x.gv x.vv x.gv x.vv w X) := ⟨(h.more hbX).mono, (h.ps.more hbX).new⟩
  have x0 : X.cell? ⟨ob, 0, none⟩ = some (.int .i64 kd) := hBO.cell 0
  have e1 : (kd == 1) = false := by simpa using h1
  have e2 : (kd == 2) = false := by simpa using h2
  have e3 : (kd == 3) = false := by simpa using h3
  have e4 : (kd == 4) = false := by simpa using h4
  have e5 : (kd == 5) = false := by simpa using h5
  have e6 : (kd == 6) = false := by simpa using h6
  have e7 : (kd == 7) = false := by simpa using h7
  clear h hbX hBO h1 h2 h3 h4 h5 h6 h7
  go_enter Tryd.func18, Tryd.ntmps18
  go_upto_region 1 with fail
  rw [← hX, ← hob]
  clear hX hob
  go_wp2_with fail
  go_ret
  exact ⟨rfl, HP.out.1, HP.out.2⟩
end Go.Proofs.YtjmbhaoehfdpoaaDoor
namespace Go.Proofs.YtjmbhaoehfdpoaaDoor
open Go.RowKit Go.PlainAid Go.MapKept
set_option linter.unusedVariables false
set_option linter.unusedSimpArgs false
theorem info99s : (Tryd.prog.info? 99).map (·.size) = some 4 := by kernel_rfl
theorem flatG_get : ∀ (es : List RE) (i j : Nat) (e : RE), es[i]? = some e → j < 4 → (flatG es)[i * 4 + j]? = (reC e)[j]?
  | [], i, j, e, h, _ => by simp at h
  | x :: es, 0, j, e, h, hj => by
    simp at h
    subst h
    show (reC x ++ flatG es)[0 * 4 + j]? = _
    rw [Nat.zero_mul, Nat.zero_add, List.getElem?_append_left (by simpa [reC] using hj)]
  | x :: es, i + 1, j, e, h, hj => by
    have ih := flatG_get es i j e (by simpa using h) hj
    show (reC x ++ flatG es)[(i + 1) * 4 + j]? = _
    rw [List.getElem?_append_right (by simp [reC]; omega)]
    rw [← ih]
    congr 1
    simp [reC]
    omega
structure GEAt (w : World) (g o : Nat) (e : RE) : Prop where
  c0 : w.cell? ⟨g, o, none⟩ = some (.string ⟨e.1.toArray⟩)
  c1 : w.cell? ⟨g, o + 1, none⟩ = some (.int .i64 e.2.1)
  c2 : w.cell? ⟨g, o + 1 + 1, none⟩ = some (.int .i64 e.2.2.1)
  c3 : w.cell? ⟨g, o + 3, none⟩ = some (.bool e.2.2.2)
theorem GEAt.keep {w w' : World} {g o : Nat} {e : RE} (h : GEAt w g o e) (hb : w'.heap[g]? = w.heap[g]?) : GEAt w' g o e :=
  have k : ∀ j, w'.cell? ⟨g, j, none⟩ = w.cell? ⟨g, j, none⟩ := fun j => World.cell?_of_block (w := w) hb
  ⟨(k _).trans h.c0, (k _).trans h.c1, (k _).trans h.c2, (k _).trans h.c3⟩
theorem RGs.at {L rb : Nat} {me n : Int} {v : Value} {A : List RE} {w : World} (h : RGs L rb me n v A w) : ∃ ao cap, v = .slice ao A.length cap ∧ A.length ≤ cap ∧ (0 < A.length → ∃ g, ao = some ⟨g, 0, none⟩ ∧ L ≤ g ∧ ∀ j e, A[j]? = some e → GEAt w g (j * 4) e) := by
  obtain ⟨ao, cap, hv, hc, _, hg⟩ := own_read h.row
  refine ⟨ao, cap, hv, hc, fun h0 => ?_⟩
  obtain ⟨g, h1, h2, h3, h4⟩ := hg h0
  refine ⟨g, h1, h2, fun j e he => ?_⟩
  have hq : ∀ t, t < 4 → ∀ u, (reC e)[t]? = some u → w.cell? ⟨g, j * 4 + t, none⟩ = some u := fun t ht u hu => h4 _ _ (by rw [flatG_get A j t e he ht]; exact hu)
  exact ⟨hq 0 (by decide) _ rfl, hq 1 (by decide) _ rfl, hq 2 (by decide) _ rfl, hq 3 (by decide) _ rfl⟩
structure LG (w : World) (b : Nat) (x : Rg) (wr : World) : Prop where
  a : Blk wr b #[.int .i64 0, .int .i64 0] 36
  b' : Blk wr (b + 1) #[.int .i64 x.1, .int .i64 x.2] 36
  bel : Below w.heap.size w wr
set_option maxRecDepth 100000 in
set_option maxHeartbeats 3200000 in
/-- ref.Lacks. -/
theorem rlacks_any {L rb : Nat} {me N : Int} {v : Value} {A : List RE} (n : List UInt8) (w : World) (hV : RGs L rb me N v A w) (hL : A.length ≤ 100000) :
    Calls Tryd.prog 34 #[.pointer (some ⟨rb, 0, none⟩), .string ⟨n.toArray⟩] w fun e w' => e = .returned (.agg #[.int .i64 (rlk n A).1, .int .i64 (rlk n A).2]) ∧ Below w.heap.size w w' := by
  obtain ⟨ao, cap, hv, hcap, hat⟩ := hV.at
  subst hv
  obtain ⟨M, hM⟩ : ∃ M, M = A.length := ⟨_, rfl⟩
  obtain ⟨b6, hb6⟩ : ∃ b, b = w.heap.size := ⟨_, rfl⟩
  obtain ⟨b7, hb7⟩ : ∃ b, b = b6 + 1 := ⟨_, rfl⟩
  obtain ⟨X, hX⟩ : ∃ X, X = (w.alloc (.cells #[.int .i64 0, .int .i64 0] 36)).alloc (.cells #[.int .i64 0, .int .i64 0] 36) := ⟨_, rfl⟩
  have HX : Hid (LG w b6 (0, 0) X) := show LG w b6 (0, 0) X from by
    refine ⟨?_, ?_, ?_⟩
    · rw [hX, hb6]; exact (Below.heap_alloc _ _ _ (by simp)).trans (heap_alloc_new w _)
    · rw [hX, hb6]; have := heap_alloc_new (w.alloc (.cells #[.int .i64 0, .int .i64 0] 36)) (.cells #[.int .i64 0, .int .i64 0] 36); rwa [World.size_alloc] at this
    · rw [hX]; exact ((Below.refl _ _).alloc (Nat.le_refl _) _).alloc (by simp) _
  have HV : Hid (RGs L rb me N (.slice ao M cap) A w) := show RGs L rb me N (.slice ao M cap) A w from by rw [hM]; exact hV
  have HAT : Hid (0 < A.length → ∃ g, ao = some ⟨g, 0, none⟩ ∧ L ≤ g ∧ ∀ j e, A[j]? = some e → GEAt w g (j * 4) e) := hat
  have HM : Hid (M = A.length) := hM
  have HB6 : Hid (b6 = w.heap.size ∧ b7 = b6 + 1) := ⟨hb6, hb7⟩
  have hML : M ≤ 100000 := by omega
  clear hV hat
  rw [← hM] at hcap
  clear hM hL
  go_enter Tryd.func34, Tryd.ntmps34
  go_upto_region 2 with fail
  rw [← hX, ← hb6, ← hb7]
  clear hX hb6 hb7
  go_wp2_with fail
  go_loopw [6] (fun i wr => ∃ j : Nat, j ≤ M ∧ i = .int .i64 j ∧ LG w b6 (rlk n (A.take j)) wr) (fun i _ => M - (intOf i).toNat)
  case atStart => exact ⟨0, Nat.zero_le _, rfl, HX.out⟩
  case round =>
    obtain ⟨j, hj, rfl, hl⟩ := hrel
    have hV2 := HV.out.more hl.bel
    have c2 : wr.cell? ⟨rb, 2, none⟩ = some (.slice ao M cap) := hV2.blk.cell 2
    have hrbl := HV.out.blk.lt
    clear hV2
    by_cases hlt : j < M
    · obtain ⟨e, he⟩ : ∃ e, A[j]? = some e := ⟨_, List.getElem?_eq_getElem (by rw [← HM.out]; exact hlt)⟩
      obtain ⟨g, hg, hLg, hE⟩ := HAT.out (by rw [← HM.out]; omega)
      subst hg
      have hgl : g < w.heap.size := (ownsRow_lt HV.out.row rfl).2
      have hee := (hE j e he).keep (hl.bel.block g hgl)
      obtain ⟨e0, e1, e2, e3⟩ := hee
      have HEE : Hid (GEAt wr g (j * 4) e) := show GEAt wr g (j * 4) e from ⟨e0, e1, e2, e3⟩
      have HS : Hid (rlk n (A.take (j + 1)) = rlkS n (rlk n (A.take j)) e) := show _ = _ from by rw [take_snoc he, rlk_app]
      generalize rlk n (A.take j) = x at *
      obtain ⟨x1, x2⟩ := x
      have HL : Hid (LG w b6 (x1, x2) wr) := hl
      have HGL : Hid (g < w.heap.size ∧ rb < w.heap.size) := And.intro hgl hrbl
      clear hl hE he hgl hLg hrbl
      by_cases k2 : e.1 = n
      · by_cases k3 : e.2.2.2 = false
        · obtain ⟨m1, hm1⟩ : ∃ m1, m1 = max x1 e.2.1 := ⟨_, rfl⟩
          obtain ⟨m2, hm2⟩ : ∃ m2, m2 = max x2 e.2.2.1 := ⟨_, rfl⟩
          have HT : Hid (rlk n (A.take (j + 1)) = (m1, m2)) := show _ = _ from by rw [HS.out]; unfold rlkS; rw [if_pos ⟨k2, k3⟩, hm1, hm2]
          have HM1 : Hid _ := hm1.symm
          have HM2 : Hid _ := hm2.symm
          have HBB : Hid (Blk wr b7 #[.int .i64 x1, .int .i64 x2] 36) := show Blk wr b7 #[.int .i64 x1, .int .i64 x2] 36 from by rw [HB6.out.2]; exact HL.out.b'
          have HC2 : Hid (wr.cell? ⟨rb, 2, none⟩ = some (.slice (some ⟨g, 0, none⟩) M cap)) := c2
          clear HS hm1 hm2
          subst k2
          go_wp2_with fail
          rename_i K hK
          try rw [show ∀ a : Act, a.put none undef = a from fun _ => rfl]
          refine wp_region_mix (fun wq => Blk wq b7 #[.int .i64 x1, .int .i64 x2] 36 ∧ wq.cell? ⟨rb, 2, none⟩ = some (.slice (some ⟨g, 0, none⟩) M cap) ∧ GEAt wq g (j * 4) e) (fun i => i == 13) 13 (by kernel_rfl) rfl (by kernel_rfl) (by kernel_rfl) (by kernel_rfl) ?_
          refine withFrP (N := 65) rfl ?_
          intro f0 F0 hff
          have ee0 : f0 0 = Value.pointer (some ⟨rb, 0, none⟩) := hff 0
          have ee5 : f0 5 = Value.pointer (some ⟨b7, 0, none⟩) := hff 5
          have ee6 : f0 6 = Value.int .i64 (j : Int) := hff 6
          clear hff
          have HCC : (fun wq => Blk wq b7 #[.int .i64 x1, .int .i64 x2] 36 ∧ wq.cell? ⟨rb, 2, none⟩ = some (.slice (some ⟨g, 0, none⟩) M cap) ∧ GEAt wq g (j * 4) e) (({ wr with drawn := wr.drawn + 1 } : World)) := ⟨HBB.out, HC2.out, HEE.out.keep rfl⟩
          refine lyp F0 rfl HCC rfl (by omega) (wanted_none rfl) (v := Value.pointer (some ⟨b7, 0, none⟩)) (fun wr hwr => by simp only [execOp, (F0.eval 5 (by omega)).trans (show _ = Value.pointer (some ⟨b7, 0, none⟩) from by simp [upd, ee0, ee5, ee6])]; simp [go_sem]) fun F1 => ?_
          refine lyp F1 rfl HCC rfl (by omega) (wanted_none rfl) (v := Value.int .i64 x1) (fun wr hwr => by simp only [execOp, (F1.eval 38 (by omega)).trans (show _ = Value.pointer (some ⟨b7, 0, none⟩) from by simp [upd, ee0, ee5, ee6])]; simp [go_sem, show wr.cell? ⟨b7, 0, none⟩ = some (.int .i64 x1) from hwr.1.cell 0]) fun F2 => ?_
          refine lyp F2 rfl HCC rfl (by omega) (wanted_none rfl) (v := Value.pointer (some ⟨rb, 0, none⟩)) (fun wr hwr => by simp only [execOp, (F2.eval 0 (by omega)).trans (show _ = Value.pointer (some ⟨rb, 0, none⟩) from by simp [upd, ee0, ee5, ee6])]; first | rfl | simp [go_sem]) fun F3 => ?_
          refine lyp F3 rfl HCC rfl (by omega) (wanted_none rfl) (v := Value.pointer (some ⟨rb, 0, none⟩)) (fun wr hwr => by simp only [execOp, (F3.eval 40 (by omega)).trans (show _ = Value.pointer (some ⟨rb, 0, none⟩) from by simp [upd, ee0, ee5, ee6])]; simp [go_sem]) fun F4 => ?_
          refine lyp F4 rfl HCC rfl (by omega) (wanted_none rfl) (v := Value.pointer (some ⟨rb, 2, none⟩)) (fun wr hwr => by simp only [execOp, (F4.eval 41 (by omega)).trans (show _ = Value.pointer (some ⟨rb, 0, none⟩) from by simp [upd, ee0, ee5, ee6])]; simp [go_sem]) fun F5 => ?_
          refine lyp F5 rfl HCC rfl (by omega) (wanted_none rfl) (v := Value.slice (some ⟨g, 0, none⟩) M cap) (fun wr hwr => by simp only [execOp, (F5.eval 42 (by omega)).trans (show _ = Value.pointer (some ⟨rb, 2, none⟩) from by simp [upd, ee0, ee5, ee6])]; simp [go_sem, hwr.2.1]) fun F6 => ?_
          refine lyp F6 rfl HCC rfl (by omega) (wanted_none rfl) (v := Value.int .i64 (j : Int)) (fun wr hwr => by simp only [execOp, (F6.eval 6 (by omega)).trans (show _ = Value.int .i64 (j : Int) from by simp [upd, ee0, ee5, ee6])]; first | rfl | simp [go_sem]) fun F7 => ?_
          refine lyp F7 rfl HCC rfl (by omega) (wanted_none rfl) (v := Value.pointer (some ⟨g, j * 4, none⟩)) (fun wr hwr => by simp only [execOp, (F7.eval 43 (by omega)).trans (show _ = Value.slice (some ⟨g, 0, none⟩) M cap from by simp [upd, ee0, ee5, ee6]), (F7.eval 44 (by omega)).trans (show _ = Value.int .i64 (j : Int) from by simp [upd, ee0, ee5, ee6])]; simp only [Sem.run_bind, Sem.run_pure, Result.andThen_ok, idx_run 89 99 4 Tryd.underlying89 info99s wr g 0 M cap j hlt, Nat.zero_add, Nat.mul_one]; try rfl) fun F8 => ?_
          refine lyp F8 rfl HCC rfl (by omega) (wanted_none rfl) (v := Value.pointer (some ⟨g, j * 4 + 1, none⟩)) (fun wr hwr => by simp only [execOp, (F8.eval 45 (by omega)).trans (show _ = Value.pointer (some ⟨g, j * 4, none⟩) from by simp [upd, ee0, ee5, ee6])]; simp [go_sem]) fun F9 => ?_
          refine lyp F9 rfl HCC rfl (by omega) (wanted_none rfl) (v := Value.pointer (some ⟨g, j * 4 + 1, none⟩)) (fun wr hwr => by simp only [execOp, (F9.eval 46 (by omega)).trans (show _ = Value.pointer (some ⟨g, j * 4 + 1, none⟩) from by simp [upd, ee0, ee5, ee6])]; simp [go_sem]) fun F10 => ?_
          refine lyp F10 rfl HCC rfl (by omega) (wanted_none rfl) (v := Value.int .i64 e.2.1) (fun wr hwr => by simp only [execOp, (F10.eval 47 (by omega)).trans (show _ = Value.pointer (some ⟨g, j * 4 + 1, none⟩) from by simp [upd, ee0, ee5, ee6])]; simp [go_sem, hwr.2.2.c1]) fun F11 => ?_
          refine lyp F11 rfl HCC rfl (by omega) (wanted_none rfl) (v := Value.int .i64 m1) (fun wr hwr => by simp only [execOp, resolve, invoke, List.map_toArray, List.map_cons, List.map_nil, (F11.eval 39 (by omega)).trans (show _ = Value.int .i64 x1 from by simp [upd, ee0, ee5, ee6]), (F11.eval 48 (by omega)).trans (show _ = Value.int .i64 e.2.1 from by simp [upd, ee0, ee5, ee6])]; simp [go_sem]; exact HM1.out) fun F12 => ?_
          refine lyp F12 rfl HCC rfl (by omega) (wanted_none rfl) (v := Value.pointer (some ⟨b7, 0, none⟩)) (fun wr hwr => by simp only [execOp, (F12.eval 5 (by omega)).trans (show _ = Value.pointer (some ⟨b7, 0, none⟩) from by simp [upd, ee0, ee5, ee6])]; simp [go_sem]) fun F13 => ?_
          have hZB : Blk (({ wr with drawn := wr.drawn + 1 } : World)) b7 #[.int .i64 x1, .int .i64 x2] 36 := HBB.out
          obtain ⟨Z1, hZ⟩ : ∃ Z, Z = World.setCell (({ wr with drawn := wr.drawn + 1 } : World)) ⟨b7, 0, none⟩ (.int .i64 m1) := ⟨_, rfl⟩
          have hBZ1 : Blk Z1 b7 #[.int .i64 m1, .int .i64 x2] 36 := by rw [hZ]; exact hZB.set 0 (.int .i64 m1)
          have hcZ1 : Chg (fun k => k = b7) wr Z1 := by rw [hZ]; exact ((Chg.refl (fun k => k = b7) wr).drewN 1).trans (setCell_chg _ b7 0 _) (fun _ _ e => e)
          have hfz : World.frozen? wr ⟨b7, 0, none⟩ = false := hZB.frozen 0
          have hcl : World.cell? wr ⟨b7, 0, none⟩ = some (.int .i64 x1) := hZB.cell 0
          refine lst rfl HCC rfl (wanted_none rfl) (w1 := Z1) (by rw [hZ]; simp only [execOp, (F13.eval 50 (by omega)).trans (show _ = Value.pointer (some ⟨b7, 0, none⟩) from by simp [upd, ee0, ee5, ee6]), (F13.eval 49 (by omega)).trans (show _ = Value.int .i64 m1 from by simp [upd, ee0, ee5, ee6])]; simp [go_sem, hfz, hcl]) ?_
          refine ⟨fun h => by omega, ?_⟩
          first | refine hK _ _ ?_ | skip
          clear F0 F1 F2 F3 F4 F5 F6 F7 F8 F9 F10 F11 F12 F13 ee0 ee5 ee6 HCC hZB hfz hcl hZ
          simp only [Act.put, List.setIfInBounds_toArray, List.set_cons_succ, List.set_cons_zero]
          have hn1 : ¬ rb = b7 := by have := HB6.out; have := HGL.out; omega
          have hn2 : ¬ g = b7 := by have := HB6.out; have := HGL.out; omega
          have hwl := HL.out.bel.size
          have HC2' : Hid (Z1.cell? ⟨rb, 2, none⟩ = some (.slice (some ⟨g, 0, none⟩) M cap)) := show Z1.cell? ⟨rb, 2, none⟩ = some (.slice (some ⟨g, 0, none⟩) M cap) from (World.cell?_of_block (w := wr) (hcZ1.block rb (Nat.lt_of_lt_of_le HGL.out.2 hwl) hn1)).trans HC2.out
          have HEE' : Hid (GEAt Z1 g (j * 4) e) := HEE.out.keep (hcZ1.block g (Nat.lt_of_lt_of_le HGL.out.1 hwl) hn2)
          clear HC2 HEE HBB
          have HC2 := HC2'
          have HEE := HEE'
          have HBB : Hid (Blk Z1 b7 #[.int .i64 m1, .int .i64 x2] 36) := hBZ1
          have HZ1 : Hid (Chg (fun k => k = b7) wr Z1) := hcZ1
          clear HC2' HEE' hBZ1 hcZ1 hn1 hn2 hwl c2 e0 e1 e2 e3
          go_wp2_with fail
          rename_i K hK
          try rw [show ∀ a : Act, a.put none undef = a from fun _ => rfl]
          refine wp_region_mix (fun wq => Blk wq b7 #[.int .i64 m1, .int .i64 x2] 36 ∧ wq.cell? ⟨rb, 2, none⟩ = some (.slice (some ⟨g, 0, none⟩) M cap) ∧ GEAt wq g (j * 4) e) (fun i => i == 13) 13 (by kernel_rfl) rfl (by kernel_rfl) (by kernel_rfl) (by kernel_rfl) ?_
          refine withFrP (N := 65) rfl ?_
          intro f0 F0 hff
          have ee0 : f0 0 = Value.pointer (some ⟨rb, 0, none⟩) := hff 0
          have ee5 : f0 5 = Value.pointer (some ⟨b7, 0, none⟩) := hff 5
          have ee6 : f0 6 = Value.int .i64 (j : Int) := hff 6
          clear hff
          have HCC : (fun wq => Blk wq b7 #[.int .i64 m1, .int .i64 x2] 36 ∧ wq.cell? ⟨rb, 2, none⟩ = some (.slice (some ⟨g, 0, none⟩) M cap) ∧ GEAt wq g (j * 4) e) (({ Z1 with drawn := Z1.drawn + 1 } : World)) := ⟨HBB.out, HC2.out, HEE.out.keep rfl⟩
          refine lyp F0 rfl HCC rfl (by omega) (wanted_none rfl) (v := Value.pointer (some ⟨b7, 1, none⟩)) (fun wr hwr => by simp only [execOp, (F0.eval 5 (by omega)).trans (show _ = Value.pointer (some ⟨b7, 0, none⟩) from by simp [upd, ee0, ee5, ee6])]; simp [go_sem]) fun F1 => ?_
          refine lyp F1 rfl HCC rfl (by omega) (wanted_none rfl) (v := Value.int .i64 x2) (fun wr hwr => by simp only [execOp, (F1.eval 51 (by omega)).trans (show _ = Value.pointer (some ⟨b7, 1, none⟩) from by simp [upd, ee0, ee5, ee6])]; simp [go_sem, show wr.cell? ⟨b7, 1, none⟩ = some (.int .i64 x2) from hwr.1.cell 1]) fun F2 => ?_
          refine lyp F2 rfl HCC rfl (by omega) (wanted_none rfl) (v := Value.pointer (some ⟨rb, 0, none⟩)) (fun wr hwr => by simp only [execOp, (F2.eval 0 (by omega)).trans (show _ = Value.pointer (some ⟨rb, 0, none⟩) from by simp [upd, ee0, ee5, ee6])]; first | rfl | simp [go_sem]) fun F3 => ?_
          refine lyp F3 rfl HCC rfl (by omega) (wanted_none rfl) (v := Value.pointer (some ⟨rb, 0, none⟩)) (fun wr hwr => by simp only [execOp, (F3.eval 53 (by omega)).trans (show _ = Value.pointer (some ⟨rb, 0, none⟩) from by simp [upd, ee0, ee5, ee6])]; simp [go_sem]) fun F4 => ?_
          refine lyp F4 rfl HCC rfl (by omega) (wanted_none rfl) (v := Value.pointer (some ⟨rb, 2, none⟩)) (fun wr hwr => by simp only [execOp, (F4.eval 54 (by omega)).trans (show _ = Value.pointer (some ⟨rb, 0, none⟩) from by simp [upd, ee0, ee5, ee6])]; simp [go_sem]) fun F5 => ?_
          refine lyp F5 rfl HCC rfl (by omega) (wanted_none rfl) (v := Value.slice (some ⟨g, 0, none⟩) M cap) (fun wr hwr => by simp only [execOp, (F5.eval 55 (by omega)).trans (show _ = Value.pointer (some ⟨rb, 2, none⟩) from by simp [upd, ee0, ee5, ee6])]; simp [go_sem, hwr.2.1]) fun F6 => ?_
          refine lyp F6 rfl HCC rfl (by omega) (wanted_none rfl) (v := Value.int .i64 (j : Int)) (fun wr hwr => by simp only [execOp, (F6.eval 6 (by omega)).trans (show _ = Value.int .i64 (j : Int) from by simp [upd, ee0, ee5, ee6])]; first | rfl | simp [go_sem]) fun F7 => ?_
          refine lyp F7 rfl HCC rfl (by omega) (wanted_none rfl) (v := Value.pointer (some ⟨g, j * 4, none⟩)) (fun wr hwr => by simp only [execOp, (F7.eval 56 (by omega)).trans (show _ = Value.slice (some ⟨g, 0, none⟩) M cap from by simp [upd, ee0, ee5, ee6]), (F7.eval 57 (by omega)).trans (show _ = Value.int .i64 (j : Int) from by simp [upd, ee0, ee5, ee6])]; simp only [Sem.run_bind, Sem.run_pure, Result.andThen_ok, idx_run 89 99 4 Tryd.underlying89 info99s wr g 0 M cap j hlt, Nat.zero_add, Nat.mul_one]; try rfl) fun F8 => ?_
          refine lyp F8 rfl HCC rfl (by omega) (wanted_none rfl) (v := Value.pointer (some ⟨g, j * 4 + 1, none⟩)) (fun wr hwr => by simp only [execOp, (F8.eval 58 (by omega)).trans (show _ = Value.pointer (some ⟨g, j * 4, none⟩) from by simp [upd, ee0, ee5, ee6])]; simp [go_sem]) fun F9 => ?_
          refine lyp F9 rfl HCC rfl (by omega) (wanted_none rfl) (v := Value.pointer (some ⟨g, j * 4 + 1 + 1, none⟩)) (fun wr hwr => by simp only [execOp, (F9.eval 59 (by omega)).trans (show _ = Value.pointer (some ⟨g, j * 4 + 1, none⟩) from by simp [upd, ee0, ee5, ee6])]; simp [go_sem]) fun F10 => ?_
          refine lyp F10 rfl HCC rfl (by omega) (wanted_none rfl) (v := Value.int .i64 e.2.2.1) (fun wr hwr => by simp only [execOp, (F10.eval 60 (by omega)).trans (show _ = Value.pointer (some ⟨g, j * 4 + 1 + 1, none⟩) from by simp [upd, ee0, ee5, ee6])]; simp [go_sem, hwr.2.2.c2]) fun F11 => ?_
          refine lyp F11 rfl HCC rfl (by omega) (wanted_none rfl) (v := Value.int .i64 m2) (fun wr hwr => by simp only [execOp, resolve, invoke, List.map_toArray, List.map_cons, List.map_nil, (F11.eval 52 (by omega)).trans (show _ = Value.int .i64 x2 from by simp [upd, ee0, ee5, ee6]), (F11.eval 61 (by omega)).trans (show _ = Value.int .i64 e.2.2.1 from by simp [upd, ee0, ee5, ee6])]; simp [go_sem]; exact HM2.out) fun F12 => ?_
          refine lyp F12 rfl HCC rfl (by omega) (wanted_none rfl) (v := Value.pointer (some ⟨b7, 1, none⟩)) (fun wr hwr => by simp only [execOp, (F12.eval 5 (by omega)).trans (show _ = Value.pointer (some ⟨b7, 0, none⟩) from by simp [upd, ee0, ee5, ee6])]; simp [go_sem]) fun F13 => ?_
          have hZB : Blk (({ Z1 with drawn := Z1.drawn + 1 } : World)) b7 #[.int .i64 m1, .int .i64 x2] 36 := HBB.out
          obtain ⟨Z2, hZ⟩ : ∃ Z, Z = World.setCell (({ Z1 with drawn := Z1.drawn + 1 } : World)) ⟨b7, 1, none⟩ (.int .i64 m2) := ⟨_, rfl⟩
          have hBZ2 : Blk Z2 b7 #[.int .i64 m1, .int .i64 m2] 36 := by rw [hZ]; exact hZB.set 1 (.int .i64 m2)
          have hcZ2 : Chg (fun k => k = b7) Z1 Z2 := by rw [hZ]; exact ((Chg.refl (fun k => k = b7) Z1).drewN 1).trans (setCell_chg _ b7 1 _) (fun _ _ e => e)
          have hfz : World.frozen? Z1 ⟨b7, 1, none⟩ = false := hZB.frozen 1
          have hcl : World.cell? Z1 ⟨b7, 1, none⟩ = some (.int .i64 x2) := hZB.cell 1
          refine lst rfl HCC rfl (wanted_none rfl) (w1 := Z2) (by rw [hZ]; simp only [execOp, (F13.eval 63 (by omega)).trans (show _ = Value.pointer (some ⟨b7, 1, none⟩) from by simp [upd, ee0, ee5, ee6]), (F13.eval 62 (by omega)).trans (show _ = Value.int .i64 m2 from by simp [upd, ee0, ee5, ee6])]; simp [go_sem, hfz, hcl]) ?_
          refine ⟨fun h => by omega, ?_⟩
          first | refine hK _ _ ?_ | skip
          clear F0 F1 F2 F3 F4 F5 F6 F7 F8 F9 F10 F11 F12 F13 ee0 ee5 ee6 HCC hZB hfz hcl hZ
          simp only [Act.put, List.setIfInBounds_toArray, List.set_cons_succ, List.set_cons_zero]
          have hcc := HZ1.out.trans hcZ2 (fun _ _ e => e)
          have HF : Hid (LG w b6 (m1, m2) Z2) := show LG w b6 (m1, m2) Z2 from ⟨hcc.blk HL.out.a (by have := HB6.out.2; omega), by rw [← HB6.out.2]; exact hBZ2, HL.out.bel.trans ⟨hcc.os, hcc.tape, hcc.output, hcc.size, fun k hk => hcc.block k (Nat.lt_of_lt_of_le hk HL.out.bel.size) (fun e => by have := HB6.out; omega)⟩⟩
          clear hcc hBZ2 hcZ2
          go_wp2_with fail
          go_roundw
          case rel => exact ⟨j + 1, by omega, by go_num, by rw [HT.out]; exact HF.out⟩
          case measure => simp [intOf]; omega
        · have HT : Hid (rlk n (A.take (j + 1)) = (x1, x2)) := show _ = _ from by rw [HS.out]; unfold rlkS; rw [if_neg (fun h => k3 h.2)]
          have k3 : e.2.2.2 = true := by simpa using k3
          rw [k3] at e3
          clear HS HEE
          subst k2
          go_wp2_with fail
          go_roundw
          case rel => exact ⟨j + 1, by omega, by go_num, by rw [HT.out]; exact HL.out⟩
          case measure => simp [intOf]; omega
      · have HT : Hid (rlk n (A.take (j + 1)) = (x1, x2)) := show _ = _ from by rw [HS.out]; unfold rlkS; rw [if_neg (fun h => k2 h.1)]
        have k3 : (e.1 == n) = false := by simpa using k2
        clear HS k2 HEE
        go_wp2_with fail
        go_roundw
        case rel => exact ⟨j + 1, by omega, by go_num, by rw [HT.out]; exact HL.out⟩
        case measure => simp [intOf]; omega
    · have hjm : A.take j = A := List.take_of_length_le (by rw [← HM.out]; omega)
      rw [hjm] at hl
      obtain ⟨x, hx⟩ : ∃ x, x = rlk n A := ⟨_, rfl⟩
      rw [← hx] at hl
      have HXX : Hid (rlk n A = x) := hx.symm
      obtain ⟨x1, x2⟩ := x
      have HL : Hid (LG w b6 (x1, x2) wr) := hl
      have s0 : wr.cell? ⟨b7, 0, none⟩ = some (.int .i64 x1) := by rw [HB6.out.2]; exact hl.b'.cell 0
      have s1 : wr.cell? ⟨b7, 1, none⟩ = some (.int .i64 x2) := by rw [HB6.out.2]; exact hl.b'.cell 1
      have t0 : wr.cell? ⟨b6, 0, none⟩ = some (.int .i64 0) := hl.a.cell 0
      have t1 : wr.cell? ⟨b6, 1, none⟩ = some (.int .i64 0) := hl.a.cell 1
      have f0 : wr.frozen? ⟨b6, 0, none⟩ = false := hl.a.frozen 0
      have f1 : wr.frozen? ⟨b6, 1, none⟩ = false := hl.a.frozen 1
      clear hl hjm hx hrbl
      go_wp2_with fail
      have g1 : Blk ((wr.setCell ⟨b6, 0, none⟩ (.int .i64 x1)).setCell ⟨b6, 1, none⟩ (.int .i64 x2)) b6 #[.int .i64 x1, .int .i64 x2] 36 := (HL.out.a.set 0 (.int .i64 x1)).set 1 (.int .i64 x2)
      refine bodyPost_ret (results_cell_row Tryd.results34 _ _ b6 36 _ (0, 0) _ rfl g1 Tryd.underlying36 rfl (by kernel_rfl)) rfl ?_
      exact ⟨by rw [HXX.out], set2_below HL.out.bel (Nat.le_of_eq HB6.out.1.symm) _ _⟩
end Go.Proofs.YtjmbhaoehfdpoaaDoor
namespace Go.Proofs.YtjmbhaoehfdpoaaDoor
open Go.RowKit Go.PlainAid Go.MapKept
set_option linter.unusedVariables false
set_option linter.unusedSimpArgs false
set_option maxRecDepth 100000 in
set_option maxHeartbeats 6400000 in
theorem played_4 {L0 M : Nat} {i : PIx} {x : PVl} (kd wh a : Int) (n : List UInt8) (d u : Int) (w : World) (h : PI L0 M i x w) (hM : M ≤ 300) (hk : kd = 4) :
    Calls Tryd.prog 18 #[.pointer (some ⟨i.pb, 0, none⟩), .agg #[.int .i64 kd, .int .i64 wh, .int .i64 a, .string ⟨n.toArray⟩, .int .i64 d, .int .i64 u]] w fun e w' => e = .returned (.bool true) ∧ PI L0 (M + 1) i x w' ∧ PNew i x.gv x.vv x.gv x.vv w w' := by
  obtain ⟨ob, hob⟩ : ∃ ob, ob = w.heap.size := ⟨_, rfl⟩
  obtain ⟨X, hX⟩ : ∃ X, X = w.alloc (.cells #[.int .i64 kd, .int .i64 wh, .int .i64 a, .string ⟨n.toArray⟩, .int .i64 d, .int .i64 u] 38) := ⟨_, rfl⟩
  have hbX : Below w.heap.size w X := by rw [hX]; exact (Below.refl _ _).alloc (Nat.le_refl _) _
  have HBX : Hid (Below w.heap.size w X) := hbX
  have HBO : Hid (Blk X ob #[.int .i64 kd, .int .i64 wh, .int .i64 a, .string ⟨n.toArray⟩, .int .i64 d, .int .i64 u] 38) := show Blk X ob #[.int .i64 kd, .int .i64 wh, .int .i64 a, .string ⟨n.toArray⟩, .int .i64 d, .int .i64 u] 38 from by rw [hX, hob]; exact heap_alloc_new w _
  have HS0 : Hid (PS L0 i x.gv x.vv w x.ver x.L x.A x.gv x.s x.s x.VL x.VA x.vv X) := h.ps.more hbX
  have x0 : X.cell? ⟨ob, 0, none⟩ = some (.int .i64 kd) := HBO.out.cell 0
  have hgl := h.gl
  obtain ⟨l1, l2, hll⟩ : ∃ l1 l2, rlk n x.A = (l1, l2) := ⟨_, _, rfl⟩
  have HL1 : Hid (∀ W, Below X.heap.size X W → Calls Tryd.prog 12 #[.pointer (some ⟨i.gb, 0, none⟩), .string ⟨n.toArray⟩] W fun e w' => e = .returned (.agg #[.int .i64 l1, .int .i64 l2]) ∧ Below W.heap.size W w') := fun W hb => by
    have := lacks_any n W (HS0.out.more hb).gs
    rw [h.lg, hll] at this
    exact this
  have HL2 : Hid (∀ W, Below X.heap.size X W → Calls Tryd.prog 34 #[.pointer (some ⟨i.qb, 0, none⟩), .string ⟨n.toArray⟩] W fun e w' => e = .returned (.agg #[.int .i64 l1, .int .i64 l2]) ∧ Below W.heap.size W w') := fun W hb => by
    have := rlacks_any n W (HS0.out.more hb).rg (by omega)
    rw [hll] at this
    exact this
  have HSM : Hid (∀ W, Calls Tryd.prog 15 #[.agg #[.int .i64 l1, .int .i64 l2], .agg #[.int .i64 l1, .int .i64 l2]] W fun r w' => r = .returned (.bool true) ∧ Below W.heap.size W w') := fun W => by
    have := Led.same_any l1 l2 l1 l2 W
    simpa using this
  have HFIN : Hid (∀ w', Below X.heap.size X w' → PI L0 (M + 1) i x w' ∧ PNew i x.gv x.vv x.gv x.vv w w') := fun w' hb => ⟨((h.more hbX).more hb).mono, (HS0.out.more hb).new⟩
  subst hk
  clear h hgl hbX hll
  go_enter Tryd.func18, Tryd.ntmps18
  go_upto_region 1 with fail
  rw [← hX, ← hob]
  clear hX hob
  go_wp2_with fail
  rename_i K hK
  try rw [show ∀ a : Act, a.put none undef = a from fun _ => rfl]
  refine wp_region_mix (fun wq => wq.cell? ⟨i.pb, 3, none⟩ = some (.pointer (some ⟨i.gb, 0, none⟩)) ∧ wq.cell? ⟨i.pb, 6, none⟩ = some (.pointer (some ⟨i.qb, 0, none⟩)) ∧ Blk wq ob #[.int .i64 4, .int .i64 wh, .int .i64 a, .string ⟨n.toArray⟩, .int .i64 d, .int .i64 u] 38) (fun i => i == 6 || i == 13 || i == 14 || i == 99) 99 (by kernel_rfl) rfl (by kernel_rfl) (by kernel_rfl) (by kernel_rfl) ?_
  refine withFrP (N := 133) rfl ?_
  intro f0 F0 hff
  have ee0 : f0 0 = Value.pointer (some ⟨i.pb, 0, none⟩) := hff 0
  have ee3 : f0 3 = Value.pointer (some ⟨ob, 0, none⟩) := hff 3
  clear hff
  have hbD : Below X.heap.size X (({ X with drawn := X.drawn + 1 } : World)) := Below.drew (Below.refl _ _)
  have HCC : (fun wq => wq.cell? ⟨i.pb, 3, none⟩ = some (.pointer (some ⟨i.gb, 0, none⟩)) ∧ wq.cell? ⟨i.pb, 6, none⟩ = some (.pointer (some ⟨i.qb, 0, none⟩)) ∧ Blk wq ob #[.int .i64 4, .int .i64 wh, .int .i64 a, .string ⟨n.toArray⟩, .int .i64 d, .int .i64 u] 38) (({ X with drawn := X.drawn + 1 } : World)) := ⟨HS0.out.box.cell 3, HS0.out.box.cell 6, HBO.out⟩
  refine lyp F0 rfl HCC rfl (by omega) (wanted_none rfl) (v := Value.pointer (some ⟨i.pb, 0, none⟩)) (fun wr hwr => by simp only [execOp, (F0.eval 0 (by omega)).trans (show _ = Value.pointer (some ⟨i.pb, 0, none⟩) from by simp [upd, ee0, ee3])]; first | rfl | simp [go_sem]) fun F1 => ?_
  refine lyp F1 rfl HCC rfl (by omega) (wanted_none rfl) (v := Value.pointer (some ⟨i.pb, 0, none⟩)) (fun wr hwr => by simp only [execOp, (F1.eval 77 (by omega)).trans (show _ = Value.pointer (some ⟨i.pb, 0, none⟩) from by simp [upd, ee0, ee3])]; simp [go_sem]) fun F2 => ?_
  refine lyp F2 rfl HCC rfl (by omega) (wanted_none rfl) (v := Value.pointer (some ⟨i.pb, 3, none⟩)) (fun wr hwr => by simp only [execOp, (F2.eval 78 (by omega)).trans (show _ = Value.pointer (some ⟨i.pb, 0, none⟩) from by simp [upd, ee0, ee3])]; simp [go_sem]) fun F3 => ?_
  refine lyp F3 rfl HCC rfl (by omega) (wanted_none rfl) (v := Value.pointer (some ⟨i.gb, 0, none⟩)) (fun wr hwr => by simp only [execOp, (F3.eval 79 (by omega)).trans (show _ = Value.pointer (some ⟨i.pb, 3, none⟩) from by simp [upd, ee0, ee3])]; simp [go_sem, hwr.1]) fun F4 => ?_
  refine lyp F4 rfl HCC rfl (by omega) (wanted_none rfl) (v := Value.pointer (some ⟨ob, 3, none⟩)) (fun wr hwr => by simp only [execOp, (F4.eval 3 (by omega)).trans (show _ = Value.pointer (some ⟨ob, 0, none⟩) from by simp [upd, ee0, ee3])]; simp [go_sem]) fun F5 => ?_
  refine lyp F5 rfl HCC rfl (by omega) (wanted_none rfl) (v := Value.string ⟨n.toArray⟩) (fun wr hwr => by simp only [execOp, (F5.eval 81 (by omega)).trans (show _ = Value.pointer (some ⟨ob, 3, none⟩) from by simp [upd, ee0, ee3])]; simp [go_sem, show wr.cell? ⟨ob, 3, none⟩ = some (.string ⟨n.toArray⟩) from hwr.2.2.cell 3]) fun F6 => ?_
  refine lcp F6 rfl HCC rfl (by omega) (wanted_none rfl) (g := 12) (args := #[Value.pointer (some ⟨i.gb, 0, none⟩), Value.string ⟨n.toArray⟩]) (by simp only [execOp, resolve, invoke, List.map_toArray, List.map_cons, List.map_nil, (F6.eval 80 (by omega)).trans (show _ = Value.pointer (some ⟨i.gb, 0, none⟩) from by simp [upd, ee0, ee3]), (F6.eval 82 (by omega)).trans (show _ = Value.string ⟨n.toArray⟩ from by simp [upd, ee0, ee3])]; simp [go_sem, Act.eval]) (HL1.out (({ X with drawn := X.drawn + 1 } : World)) hbD) ?_
  rintro e9 w2 ⟨rfl, hb2⟩
  have hbX2 : Below X.heap.size X w2 := hbD.trans hb2
  refine ⟨_, rfl, fun F7 => ?_⟩
  have HC2 : (fun wq => wq.cell? ⟨i.pb, 3, none⟩ = some (.pointer (some ⟨i.gb, 0, none⟩)) ∧ wq.cell? ⟨i.pb, 6, none⟩ = some (.pointer (some ⟨i.qb, 0, none⟩)) ∧ Blk wq ob #[.int .i64 4, .int .i64 wh, .int .i64 a, .string ⟨n.toArray⟩, .int .i64 d, .int .i64 u] 38) w2 := ⟨cell_below hb2 HCC.1, cell_below hb2 HCC.2.1, HCC.2.2.below hb2 HCC.2.2.lt⟩
  refine lyp F7 rfl HC2 rfl (by omega) (wanted_none rfl) (v := Value.pointer (some ⟨i.pb, 0, none⟩)) (fun wr hwr => by simp only [execOp, (F7.eval 0 (by omega)).trans (show _ = Value.pointer (some ⟨i.pb, 0, none⟩) from by simp [upd, ee0, ee3])]; first | rfl | simp [go_sem]) fun F8 => ?_
  refine lyp F8 rfl HC2 rfl (by omega) (wanted_none rfl) (v := Value.pointer (some ⟨i.pb, 0, none⟩)) (fun wr hwr => by simp only [execOp, (F8.eval 84 (by omega)).trans (show _ = Value.pointer (some ⟨i.pb, 0, none⟩) from by simp [upd, ee0, ee3])]; simp [go_sem]) fun F9 => ?_
  refine lyp F9 rfl HC2 rfl (by omega) (wanted_none rfl) (v := Value.pointer (some ⟨i.pb, 6, none⟩)) (fun wr hwr => by simp only [execOp, (F9.eval 85 (by omega)).trans (show _ = Value.pointer (some ⟨i.pb, 0, none⟩) from by simp [upd, ee0, ee3])]; simp [go_sem]) fun F10 => ?_
  refine lyp F10 rfl HC2 rfl (by omega) (wanted_none rfl) (v := Value.pointer (some ⟨i.qb, 0, none⟩)) (fun wr hwr => by simp only [execOp, (F10.eval 86 (by omega)).trans (show _ = Value.pointer (some ⟨i.pb, 6, none⟩) from by simp [upd, ee0, ee3])]; simp [go_sem, hwr.2.1]) fun F11 => ?_
  refine lyp F11 rfl HC2 rfl (by omega) (wanted_none rfl) (v := Value.pointer (some ⟨ob, 3, none⟩)) (fun wr hwr => by simp only [execOp, (F11.eval 3 (by omega)).trans (show _ = Value.pointer (some ⟨ob, 0, none⟩) from by simp [upd, ee0, ee3])]; simp [go_sem]) fun F12 => ?_
  refine lyp F12 rfl HC2 rfl (by omega) (wanted_none rfl) (v := Value.string ⟨n.toArray⟩) (fun wr hwr => by simp only [execOp, (F12.eval 88 (by omega)).trans (show _ = Value.pointer (some ⟨ob, 3, none⟩) from by simp [upd, ee0, ee3])]; simp [go_sem, show wr.cell? ⟨ob, 3, none⟩ = some (.string ⟨n.toArray⟩) from hwr.2.2.cell 3]) fun F13 => ?_
  refine lcp F13 rfl HC2 rfl (by omega) (wanted_none rfl) (g := 34) (args := #[Value.pointer (some ⟨i.qb, 0, none⟩), Value.string ⟨n.toArray⟩]) (by simp only [execOp, resolve, invoke, List.map_toArray, List.map_cons, List.map_nil, (F13.eval 87 (by omega)).trans (show _ = Value.pointer (some ⟨i.qb, 0, none⟩) from by simp [upd, ee0, ee3]), (F13.eval 89 (by omega)).trans (show _ = Value.string ⟨n.toArray⟩ from by simp [upd, ee0, ee3])]; simp [go_sem, Act.eval]) (HL2.out w2 hbX2) ?_
  rintro e9 w3 ⟨rfl, hb3⟩
  have hbX3 : Below X.heap.size X w3 := hbX2.trans (hb3.mono hbX2.size)
  refine ⟨_, rfl, fun F14 => ?_⟩
  have HC3 : (fun wq => wq.cell? ⟨i.pb, 3, none⟩ = some (.pointer (some ⟨i.gb, 0, none⟩)) ∧ wq.cell? ⟨i.pb, 6, none⟩ = some (.pointer (some ⟨i.qb, 0, none⟩)) ∧ Blk wq ob #[.int .i64 4, .int .i64 wh, .int .i64 a, .string ⟨n.toArray⟩, .int .i64 d, .int .i64 u] 38) w3 := ⟨cell_below hb3 HC2.1, cell_below hb3 HC2.2.1, HC2.2.2.below hb3 HC2.2.2.lt⟩
  refine lcp F14 rfl HC3 rfl (by omega) (wanted_none rfl) (g := 15) (args := #[Value.agg #[.int .i64 l1, .int .i64 l2], Value.agg #[.int .i64 l1, .int .i64 l2]]) (by simp only [execOp, resolve, invoke, List.map_toArray, List.map_cons, List.map_nil, (F14.eval 83 (by omega)).trans (show _ = Value.agg #[.int .i64 l1, .int .i64 l2] from by simp [upd, ee0, ee3]), (F14.eval 90 (by omega)).trans (show _ = Value.agg #[.int .i64 l1, .int .i64 l2] from by simp [upd, ee0, ee3])]; simp [go_sem, Act.eval]) (HSM.out w3) ?_
  rintro e9 w4 ⟨rfl, hb4⟩
  have hbX4 : Below X.heap.size X w4 := hbX3.trans (hb4.mono hbX3.size)
  refine ⟨_, rfl, fun F15 => ?_⟩
  have HC4 : (fun wq => wq.cell? ⟨i.pb, 3, none⟩ = some (.pointer (some ⟨i.gb, 0, none⟩)) ∧ wq.cell? ⟨i.pb, 6, none⟩ = some (.pointer (some ⟨i.qb, 0, none⟩)) ∧ Blk wq ob #[.int .i64 4, .int .i64 wh, .int .i64 a, .string ⟨n.toArray⟩, .int .i64 d, .int .i64 u] 38) w4 := ⟨cell_below hb4 HC3.1, cell_below hb4 HC3.2.1, HC3.2.2.below hb4 HC3.2.2.lt⟩
  refine lyp F15 rfl HC4 rfl (by omega) (wanted_none rfl) (v := Value.bool true) (fun wr hwr => by simp only [execOp, (F15.eval 91 (by omega)).trans (show _ = Value.bool true from by simp [upd, ee0, ee3])]; first | rfl | simp [go_sem]) fun F16 => ?_
  refine ⟨fun _ => HC4, ?_⟩
  first | refine hK _ _ ?_ | skip
  clear F0 F1 F2 F3 F4 F5 F6 F7 F8 F9 F10 F11 F12 F13 F14 F15 F16 ee0 ee3 HCC HC2 HC3 HC4 hbD hb2 hb3 hb4 hbX2 hbX3
  simp only [Act.put, List.setIfInBounds_toArray, List.set_cons_succ, List.set_cons_zero]
  have HB4 : Hid (Below X.heap.size X w4) := hbX4
  clear hbX4 HL1 HL2 HSM x0
  go_wp2_with fail
  go_ret
  exact ⟨rfl, (HFIN.out _ HB4.out).1, (HFIN.out _ HB4.out).2⟩
end Go.Proofs.YtjmbhaoehfdpoaaDoor
namespace Go.Proofs.YtjmbhaoehfdpoaaDoor
open Go.RowKit Go.PlainAid Go.MapKept
set_option linter.unusedVariables false
set_option linter.unusedSimpArgs false
set_option maxRecDepth 100000 in
set_option maxHeartbeats 1600000 in
/-- made, where New refuses: nil, and both say so. -/
theorem made_no (me : Int) (N : Int) (w : World) (h : newCode me N ≠ 0) :
    Calls Tryd.prog 17 #[.int .i64 me, .int .i64 N] w fun e w' => e = .returned (.tuple #[.pointer none, .bool true]) ∧ w' = w := by
  have HGN : Hid _ := gnew_no me N w h
  have HRN : Hid _ := rgnew_no me N w h
  generalize newCode me N = c at *
  clear h
  go_enter Tryd.func17, Tryd.ntmps17
  go_wp2_with fail
  refine Calls.mono HGN.out ?_
  rintro e9 w9 ⟨rfl, hw9⟩
  replace hw9 := hw9.symm
  subst hw9
  go_wp2_with fail
  refine Calls.mono HRN.out ?_
  rintro e9 w9 ⟨rfl, hw9⟩
  replace hw9 := hw9.symm
  subst hw9
  go_wp2_with fail
  go_ret2
  exact ⟨rfl, rfl⟩
end Go.Proofs.YtjmbhaoehfdpoaaDoor
namespace Go.Proofs.YtjmbhaoehfdpoaaDoor
open Go.RowKit Go.PlainAid Go.MapKept
set_option linter.unusedVariables false
set_option linter.unusedSimpArgs false
def doneE (e : RE) : RE := (e.1, e.2.1, e.2.2.1, true)
def clrE (n : List UInt8) (e : RE) : RE := if e.1 = n then doneE e else e
def clr (n : List UInt8) (A : List RE) : List RE := A.map (clrE n)
def clrTo (n : List UInt8) (A : List RE) (j : Nat) : List RE := (A.take j).map (clrE n) ++ A.drop j
theorem List.set_getElem?_self' {α : Type} {l : List α} {j : Nat} {e : α} (h : l[j]? = some e) : l.set j e = l := by
  obtain ⟨hj, rfl⟩ := List.getElem?_eq_some_iff.1 h
  exact List.set_getElem_self hj
theorem clrTo_len (n : List UInt8) (A : List RE) (j : Nat) : (clrTo n A j).length = A.length := by
  simp only [clrTo, List.length_append, List.length_map, List.length_take, List.length_drop]
  omega
theorem clrTo_at {n : List UInt8} {A : List RE} {j : Nat} {e : RE} (h : A[j]? = some e) : (clrTo n A j)[j]? = some e := by
  have hj := (List.getElem?_eq_some_iff.1 h).1
  have hl : ((A.take j).map (clrE n)).length = j := by simp; omega
  unfold clrTo
  rw [List.getElem?_append_right (by omega), hl, Nat.sub_self, List.getElem?_drop, Nat.add_zero]
  exact h
theorem clrTo_succ {n : List UInt8} {A : List RE} {j : Nat} {e : RE} (h : A[j]? = some e) : clrTo n A (j + 1) = (clrTo n A j).set j (clrE n e) := by
  have hj := (List.getElem?_eq_some_iff.1 h).1
  have hl : ((A.take j).map (clrE n)).length = j := by simp; omega
  unfold clrTo
  rw [List.set_append_right _ _ (by omega), hl, Nat.sub_self, drop_at h, List.set_cons_zero, take_snoc h, List.map_append]
  simp
theorem clrTo_all (n : List UInt8) (A : List RE) : clrTo n A A.length = clr n A := by simp [clrTo, clr]
theorem flatG_done : ∀ (B : List RE) (j : Nat) (e : RE), B[j]? = some e → (flatG B).set (j * 4 + 3) (.bool true) = flatG (B.set j (doneE e))
  | [], j, e, h => by simp at h
  | x :: B, 0, e, h => by
    simp at h
    subst h
    rfl
  | x :: B, j + 1, e, h => by
    have ih := flatG_done B j e (by simpa using h)
    show (reC x ++ flatG B).set ((j + 1) * 4 + 3) (.bool true) = reC x ++ flatG (B.set j (doneE e))
    rw [← ih, List.set_append_right _ _ (by simp [reC]; omega)]
    congr 2
    simp [reC]
    omega
theorem RGs.done {L rb g M cap j : Nat} {me n : Int} {B : List RE} {e : RE} {w : World} (h : RGs L rb me n (.slice (some ⟨g, 0, none⟩) M cap) B w) (hj : B[j]? = some e) :
    RGs L rb me n (.slice (some ⟨g, 0, none⟩) M cap) (B.set j (doneE e)) (w.setCell ⟨g, j * 4 + 3, none⟩ (.bool true)) ∧ Chg (fun b => b = g) w (w.setCell ⟨g, j * 4 + 3, none⟩ (.bool true)) := by
  have hc := setCell_chg w g (j * 4 + 3) (.bool true)
  have hne : rb ≠ g := fun e0 => by
    obtain ⟨cu, hcu⟩ := ownsRow_type h.row (g := g) rfl
    exact Blk.ne_t h.blk (show Blk w g cu 99 from hcu) (by decide) e0
  refine ⟨⟨hc.blk h.blk hne, ?_, h.lo⟩, hc⟩
  rcases h.row.2 with ⟨h1, _⟩ | ⟨g2, c, cur, h1, h2, h3, h4, h5, h6, h7⟩
  · cases h1
  · have e1 : g2 = g := by cases h1; rfl
    subst e1
    have hB : Blk w g2 cur 99 := h3
    refine ⟨?_, Or.inr ⟨g2, c, cur.setIfInBounds (j * 4 + 3) (.bool true), by rw [List.length_set]; exact h1, h2, hB.set _ _, by rw [List.length_set]; exact h4, h5, by rw [Array.size_setIfInBounds]; exact h6, ?_⟩⟩
    · rw [← flatG_done B j e hj, List.length_set, List.length_set]
      exact h.row.1
    · rw [List.length_set, Array.toList_setIfInBounds, List.take_set, h7]
      exact flatG_done B j e hj
set_option maxRecDepth 100000 in
set_option maxHeartbeats 3200000 in
/-- ref.clear. -/
theorem rclear_any {L rb : Nat} {me N : Int} {v : Value} {A : List RE} (n : List UInt8) (w : World) (hV : RGs L rb me N v A w) (hL : A.length ≤ 100000) :
    Calls Tryd.prog 58 #[.pointer (some ⟨rb, 0, none⟩), .string ⟨n.toArray⟩] w fun e w' => e = .returned (.tuple #[]) ∧ RGs L rb me N v (clr n A) w' ∧ Chg (fun k => v.ownBlock = some k) w w' := by
  obtain ⟨M, hM⟩ : ∃ M, M = A.length := ⟨_, rfl⟩
  have HV : Hid (RGs L rb me N v A w) := hV
  have HM : Hid (M = A.length) := hM
  have hML : M ≤ 100000 := by omega
  clear hV hM hL
  go_enter Tryd.func58, Tryd.ntmps58
  go_wp2_with fail
  go_loopw [4] (fun i wr => ∃ j : Nat, j ≤ M ∧ i = .int .i64 j ∧ RGs L rb me N v (clrTo n A j) wr ∧ Chg (fun k => v.ownBlock = some k) w wr) (fun i _ => M - (intOf i).toNat)
  case atStart => exact ⟨0, Nat.zero_le _, rfl, by simpa [clrTo] using HV.out, Chg.refl _ _⟩
  case round =>
    obtain ⟨j, hj, rfl, hR, hC⟩ := hrel
    obtain ⟨ao, cap, hv, hcap, hat⟩ := hR.at
    rw [clrTo_len, ← HM.out] at hv hcap hat
    subst hv
    have c2 : wr.cell? ⟨rb, 2, none⟩ = some (.slice ao M cap) := hR.blk.cell 2
    have HC : Hid (Chg (fun k => (Value.slice ao M cap).ownBlock = some k) w wr) := hC
    have HR : Hid (RGs L rb me N (.slice ao M cap) (clrTo n A j) wr) := hR
    clear hC hR
    by_cases hlt : j < M
    · obtain ⟨e, he⟩ : ∃ e, A[j]? = some e := ⟨_, List.getElem?_eq_getElem (by rw [← HM.out]; exact hlt)⟩
      obtain ⟨g, hg, hLg, hE⟩ := hat (by omega)
      subst hg
      obtain ⟨e0, e1, e2, e3⟩ := hE j e (clrTo_at he)
      have hd := HR.out.done (clrTo_at (n := n) he)
      have HT : Hid (clrTo n A (j + 1) = (clrTo n A j).set j (clrE n e)) := clrTo_succ he
      have HD : Hid (_ ∧ _) := hd
      obtain ⟨gc, hgc⟩ := ownsRow_type HR.out.row (g := g) rfl
      have ef : wr.frozen? ⟨g, j * 4 + 3, none⟩ = false := (show Blk wr g gc 99 from hgc).frozen _
      have HAT : Hid (A[j]? = some e) := he
      clear hE hat hLg hd hgc he
      by_cases k2 : e.1 = n
      · have HT2 : Hid (clrE n e = doneE e) := show _ = _ from by unfold clrE; rw [if_pos k2]
        subst k2
        go_wp2_with fail
        go_roundw
        case rel => exact ⟨j + 1, by omega, by go_num, by rw [HT.out, HT2.out]; exact HD.out.1, HC.out.trans HD.out.2 (fun k _ e => by rw [e]; rfl)⟩
        case measure => simp [intOf]; omega
      · have HT2 : Hid (clrTo n A (j + 1) = clrTo n A j) := show _ = _ from by
          rw [HT.out]
          unfold clrE
          rw [if_neg k2]
          exact List.set_getElem?_self' (clrTo_at HAT.out)
        have k3 : (e.1 == n) = false := by simpa using k2
        clear k2
        go_wp2_with fail
        go_roundw
        case rel => exact ⟨j + 1, by omega, by go_num, by rw [HT2.out]; exact HR.out, HC.out⟩
        case measure => simp [intOf]; omega
    · have hjm : clrTo n A j = clr n A := by rw [show j = A.length from by rw [← HM.out]; omega]; exact clrTo_all n A
      have HF : Hid (RGs L rb me N (.slice ao M cap) (clr n A) wr) := show RGs L rb me N (.slice ao M cap) (clr n A) wr from by rw [← hjm]; exact HR.out
      clear hjm hat HR
      go_wp2_with fail
      first | go_end0 | go_ret
      exact ⟨rfl, HF.out, HC.out⟩
end Go.Proofs.YtjmbhaoehfdpoaaDoor
namespace Go.Proofs.YtjmbhaoehfdpoaaDoor
open Go.RowKit Go.PlainAid Go.MapKept
set_option linter.unusedVariables false
set_option linter.unusedSimpArgs false
theorem clr_len (n : List UInt8) (A : List RE) : (clr n A).length = A.length := by simp [clr]
theorem rlk_clr_aux (n m : List UInt8) : ∀ (A : List RE) (acc : Rg), (clr n A).foldl (rlkS m) acc = if m = n then acc else A.foldl (rlkS m) acc
  | [], acc => by simp [clr]
  | e :: A, acc => by
    have ih := fun a => rlk_clr_aux n m A a
    show (clr n A).foldl (rlkS m) (rlkS m acc (clrE n e)) = _
    rw [ih]
    by_cases hm : m = n
    · rw [if_pos hm, if_pos hm]
      subst hm
      unfold rlkS clrE doneE
      by_cases he : e.1 = m
      · rw [if_pos he]
        simp
      · rw [if_neg he, if_neg (fun h => he h.1)]
    · rw [if_neg hm, if_neg hm]
      show _ = A.foldl (rlkS m) (rlkS m acc e)
      congr 1
      unfold rlkS clrE doneE
      by_cases he : e.1 = n
      · rw [if_pos he, if_neg (fun h => hm (h.1.symm.trans he)), if_neg (fun h => hm (h.1.symm.trans he))]
      · rw [if_neg he]
/-- What is lacking behind clear. -/
theorem rlk_clr (n m : List UInt8) (A : List RE) : rlk m (clr n A) = if m = n then (0, 0) else rlk m A := rlk_clr_aux n m A (0, 0)
/-- A Tick that takes the name away keeps both agreeing. -/
theorem clr_lg {L : GL} {A : List RE} (n : List UInt8) (hk : Gm.KD L) (h : ∀ m, lk m L = rlk m A) (m : List UInt8) : lk m (Gm.rmK n L) = rlk m (clr n A) := by
  rw [lk_rmK n m hk, rlk_clr, h]
theorem clr_ok {L : GL} (n : List UInt8) (hk : Gm.KD L) (h : ∀ m, okR (lk m L)) (m : List UInt8) : okR (lk m (Gm.rmK n L)) := by
  rw [lk_rmK n m hk]
  split
  · exact ⟨⟨Int.le_refl _, show (0 : Int) ≤ 1099511627776 by decide⟩, Int.le_refl _, show (0 : Int) ≤ 1099511627776 by decide⟩
  · exact h m
end Go.Proofs.YtjmbhaoehfdpoaaDoor
namespace Go.Proofs.YtjmbhaoehfdpoaaDoor
open Go.RowKit Go.PlainAid Go.MapKept
set_option linter.unusedVariables false
set_option linter.unusedSimpArgs false
set_option maxRecDepth 100000 in
set_option maxHeartbeats 6400000 in
theorem ggive_any {S : Led.Sens} {Ls : Nat} {gb lb : Nat} {s : Led.LS} (wd wu : Int) (w : World) (hB : Blk w lb s.cs 63) (ho : s.Ok) (hd : IntKind.i64.wrap s.d = s.d) (hu : IntKind.i64.wrap s.u = s.u) (hS : Led.Sen S Ls w) (hL : Ls ≤ lb) :
    Calls Tryd.prog 31 #[.pointer (some ⟨gb, 0, none⟩), .pointer (some ⟨lb, 0, none⟩), .agg #[.int .i64 wd, .int .i64 wu]] w fun e w' => e = .returned (.agg #[.int .i64 (giveI s.d wd), .int .i64 (giveI s.u wu)]) ∧ Blk w' lb (s.onext (giveI s.d wd) (giveI s.u wu)).cs 63 ∧ Chg (fun k => k = lb) w w' := by
  obtain ⟨b5, hb5⟩ : ∃ b, b = w.heap.size := ⟨_, rfl⟩
  obtain ⟨b6, hb6⟩ : ∃ b, b = b5 + 1 := ⟨_, rfl⟩
  obtain ⟨X0, hX0⟩ : ∃ X, X = (w.alloc (.cells #[.int .i64 wd, .int .i64 wu] 36)).alloc (.cells #[.int .i64 0, .int .i64 0] 36) := ⟨_, rfl⟩
  have hbX0 : Below w.heap.size w X0 := by rw [hX0]; exact ((Below.refl _ _).alloc (Nat.le_refl _) _).alloc (by simp) _
  have hB5 : Blk X0 b5 #[.int .i64 wd, .int .i64 wu] 36 := by rw [hX0, hb5]; exact (Below.heap_alloc _ _ _ (by simp)).trans (heap_alloc_new w _)
  have hB6 : Blk X0 b6 #[.int .i64 0, .int .i64 0] 36 := by rw [hX0, hb6, hb5]; have := heap_alloc_new (w.alloc (.cells #[.int .i64 wd, .int .i64 wu] 36)) (.cells #[.int .i64 0, .int .i64 0] 36); rwa [World.size_alloc] at this
  have HRI : Hid _ := Led.rights_any X0 (hB.below hbX0 hB.lt)
  have HG1 : Hid (∀ W, _) := fun W => give_any s.d wd hd W
  have HG2 : Hid (∀ W, _) := fun W => give_any s.u wu hu W
  have HON : Hid (∀ W g1 g2, Below w.heap.size w W → Calls Tryd.prog 37 #[.pointer (some ⟨lb, 0, none⟩), .agg #[.int .i64 g1, .int .i64 g2]] W fun r w' => r = .returned (.int .i64 (s.ocode g1 g2)) ∧ Blk w' lb (s.onext g1 g2).cs 63 ∧ Led.Stq lb W w') := fun W g1 g2 hb => Led.out_any W (hS.below (hb.mono (Nat.le_of_lt (Nat.lt_of_le_of_lt hL hB.lt)))) (hB.below hb hB.lt) ho hL g1 g2
  have HB : Hid (Blk w lb s.cs 63) := hB
  have HLO : Hid (lb < b5 ∧ b5 = w.heap.size ∧ b6 = b5 + 1) := ⟨by rw [hb5]; exact hB.lt, hb5, hb6⟩
  have HX0 : Hid (Below w.heap.size w X0) := hbX0
  have HB50 : Hid (Blk X0 b5 #[.int .i64 wd, .int .i64 wu] 36) := hB5
  have HB60 : Hid (Blk X0 b6 #[.int .i64 0, .int .i64 0] 36) := hB6
  generalize giveI s.d wd = g1 at *
  generalize giveI s.u wu = g2 at *
  clear hB ho hd hu hbX0 hB5 hB6 hS hL
  go_enter Tryd.func31, Tryd.ntmps31
  go_upto_region 1 with fail
  rw [← hX0, ← hb5, ← hb6]
  clear hX0 hb5 hb6
  go_wp2_with fail
  refine Calls.mono HRI.out ?_
  rintro e9 V0 ⟨rfl, hb0⟩
  obtain ⟨b7, hb7⟩ : ∃ b, b = V0.heap.size := ⟨_, rfl⟩
  obtain ⟨X, hX⟩ : ∃ X, X = V0.alloc (.cells #[.int .i64 s.d, .int .i64 s.u] 36) := ⟨_, rfl⟩
  have hbx : Below V0.heap.size V0 X := by rw [hX]; exact (Below.refl _ _).alloc (Nat.le_refl _) _
  have hbX : Below X0.heap.size X0 X := hb0.trans (hbx.mono hb0.size)
  have HB7 : Hid (Blk X b7 #[.int .i64 s.d, .int .i64 s.u] 36) := show Blk X b7 #[.int .i64 s.d, .int .i64 s.u] 36 from by rw [hX, hb7]; exact heap_alloc_new V0 _
  have HB5 : Hid (Blk X b5 #[.int .i64 wd, .int .i64 wu] 36) := HB50.out.below hbX HB50.out.lt
  have HB6 : Hid (Blk X b6 #[.int .i64 0, .int .i64 0] 36) := HB60.out.below hbX HB60.out.lt
  have HBX : Hid (Below w.heap.size w X) := HX0.out.trans (hbX.mono HX0.out.size)
  go_upto_region 2 with fail
  rw [← hX, ← hb7]
  clear hX hb7 hbx hbX hb0 HRI HB50 HB60 HX0
  go_wp2_with fail
  rename_i K hK
  try rw [show ∀ a : Act, a.put none undef = a from fun _ => rfl]
  have hrest : ∀ (a : Act) (f' : Nat → Value) (Y : World) (bx : Nat), Fr 26 a f' → f' 1 = Value.pointer (some ⟨lb, 0, none⟩) → f' 6 = Value.pointer (some ⟨b6, 0, none⟩) → f' 8 = Value.pointer (some ⟨bx, 0, none⟩) → Blk Y bx #[.int .i64 g1, .int .i64 g2] 36 → Below X.heap.size X Y → X.heap.size ≤ bx → K a Y := by
    intro a f' Y bx F' k1 k6 k8 hBx hCx hlx
    refine hK _ _ ?_
    rw [F'.lit, show ((List.range 26).map f').toArray = #[f' 0, f' 1, f' 2, f' 3, f' 4, f' 5, f' 6, f' 7, f' 8, f' 9, f' 10, f' 11, f' 12, f' 13, f' 14, f' 15, f' 16, f' 17, f' 18, f' 19, f' 20, f' 21, f' 22, f' 23, f' 24, f' 25] from rfl, k1, k6, k8]
    have hwY : Below w.heap.size w Y := HBX.out.trans (hCx.mono HBX.out.size)
    have HO : Hid _ := HON.out Y g1 g2 hwY
    have y0 : Y.cell? ⟨bx, 0, none⟩ = some (.int .i64 g1) := hBx.cell 0
    have y1 : Y.cell? ⟨bx, 1, none⟩ = some (.int .i64 g2) := hBx.cell 1
    have HBx : Hid (Blk Y bx #[.int .i64 g1, .int .i64 g2] 36) := hBx
    have HB6Y : Hid (Blk Y b6 #[.int .i64 0, .int .i64 0] 36) := HB6.out.below hCx HB6.out.lt
    have HWY : Hid (Below w.heap.size w Y) := hwY
    have HBL : Hid (Blk Y lb s.cs 63) := HB.out.below hwY HB.out.lt
    have HNX : Hid (b6 ≠ bx) := show b6 ≠ bx from by have := HB6.out.lt; omega
    clear hK F' k1 k6 k8 hBx hCx hlx hwY
    go_wp2_with fail
    refine Calls.mono HO.out ?_
    rintro e9 U ⟨rfl, hU, hst⟩
    have hcU := Stq_chg hst
    have hBxU : Blk U bx #[.int .i64 g1, .int .i64 g2] 36 := hcU.blk HBx.out (Blk.ne_t HBx.out HBL.out (by decide))
    have hB6U : Blk U b6 #[.int .i64 0, .int .i64 0] 36 := hcU.blk HB6Y.out (Blk.ne_t HB6Y.out HBL.out (by decide))
    have u0 : U.cell? ⟨bx, 0, none⟩ = some (.int .i64 g1) := hBxU.cell 0
    have u1 : U.cell? ⟨bx, 1, none⟩ = some (.int .i64 g2) := hBxU.cell 1
    have v0 : U.cell? ⟨b6, 0, none⟩ = some (.int .i64 0) := hB6U.cell 0
    have v1 : U.cell? ⟨b6, 1, none⟩ = some (.int .i64 0) := hB6U.cell 1
    have f0 : U.frozen? ⟨b6, 0, none⟩ = false := hB6U.frozen 0
    have f1 : U.frozen? ⟨b6, 1, none⟩ = false := hB6U.frozen 1
    have HBU6 : Hid (Blk ((U.setCell ⟨b6, 0, none⟩ (.int .i64 g1)).setCell ⟨b6, 1, none⟩ (.int .i64 g2)) b6 #[.int .i64 g1, .int .i64 g2] 36) := (hB6U.set 0 (.int .i64 g1)).set 1 (.int .i64 g2)
    have hc6 : Chg (fun k => k = b6) U ((U.setCell ⟨b6, 0, none⟩ (.int .i64 g1)).setCell ⟨b6, 1, none⟩ (.int .i64 g2)) := (setCell_chg U b6 0 _).trans (setCell_chg _ b6 1 _) (fun _ _ e => e)
    have HLU : Hid (Blk ((U.setCell ⟨b6, 0, none⟩ (.int .i64 g1)).setCell ⟨b6, 1, none⟩ (.int .i64 g2)) lb (s.onext g1 g2).cs 63) := hc6.blk hU (by have := HLO.out; omega)
    have HCF : Hid (Chg (fun k => k = lb) w ((U.setCell ⟨b6, 0, none⟩ (.int .i64 g1)).setCell ⟨b6, 1, none⟩ (.int .i64 g2))) := ((Chg.ofBelow _ HWY.out).trans hcU (fun _ _ e => e)).trans hc6 (fun j hj e => by have := HLO.out; omega)
    clear hU hst hcU hBxU hB6U hc6 y0 y1
    go_wp2_with fail
    refine bodyPost_ret (results_cell_row Tryd.results31 _ _ b6 36 _ (0, 0) _ rfl HBU6.out Tryd.underlying36 rfl (by kernel_rfl)) rfl ?_
    exact ⟨rfl, HLU.out, HCF.out⟩
  refine wp_region_plan (fun wq => Blk wq b7 #[.int .i64 s.d, .int .i64 s.u] 36 ∧ Blk wq b5 #[.int .i64 wd, .int .i64 wu] 36 ∧ Below X.heap.size X wq) (fun i => i == 4 || i == 9 || i == 11 || i == 12) 12 (.one 0 (.one 1 (.one 2 (.one 3 (.one 5 (.one 6 (.one 7 (.one 8 (.two 4 11 (.two 9 11 (.one 10 (.one 11 (.one 12 (.done)))) (.one 9 (.one 10 (.one 12 (.done))))) (.one 4 (.one 9 (.one 10 (.one 12 (.done))))))))))))) ) (by kernel_rfl) rfl (by kernel_rfl) (by kernel_rfl) rfl (by kernel_rfl) ?_
  refine withFrG (N := 26) rfl ?_
  intro a0 f0 F0 hff
  have hs1 : f0 1 = Value.pointer (some ⟨lb, 0, none⟩) := hff 1
  have hs5 : f0 5 = Value.pointer (some ⟨b5, 0, none⟩) := hff 5
  have hs6 : f0 6 = Value.pointer (some ⟨b6, 0, none⟩) := hff 6
  have hs7 : f0 7 = Value.pointer (some ⟨b7, 0, none⟩) := hff 7
  clear hff
  have hC0 : (fun wq => Blk wq b7 #[.int .i64 s.d, .int .i64 s.u] 36 ∧ Blk wq b5 #[.int .i64 wd, .int .i64 wu] 36 ∧ Below X.heap.size X wq) ({ X with drawn := X.drawn + 1 } : World) := ⟨HB7.out, HB5.out, Below.drew (Below.refl X.heap.size X)⟩
  refine py (k := 0) rfl F0 rfl hC0 rfl (by omega) (wanted_none rfl) (v := Value.pointer (some ⟨b7, 0, none⟩)) (fun wr hwr => by simp only [execOp, (F0.eval 7 (by omega)).trans (show _ = Value.pointer (some ⟨b7, 0, none⟩) from by simp [upd, hs1, hs5, hs6, hs7])]; simp [go_sem]) fun a1 F1 => ?_
  refine py (k := 1) rfl F1 rfl hC0 rfl (by omega) (wanted_none rfl) (v := Value.int .i64 s.d) (fun wr hwr => by simp only [execOp, (F1.eval 11 (by omega)).trans (show _ = Value.pointer (some ⟨b7, 0, none⟩) from by simp [upd, hs1, hs5, hs6, hs7])]; simp [go_sem, show wr.cell? ⟨b7, 0, none⟩ = some (.int .i64 s.d) from hwr.1.cell 0]) fun a2 F2 => ?_
  refine py (k := 2) rfl F2 rfl hC0 rfl (by omega) (wanted_none rfl) (v := Value.pointer (some ⟨b5, 0, none⟩)) (fun wr hwr => by simp only [execOp, (F2.eval 5 (by omega)).trans (show _ = Value.pointer (some ⟨b5, 0, none⟩) from by simp [upd, hs1, hs5, hs6, hs7])]; simp [go_sem]) fun a3 F3 => ?_
  refine py (k := 3) rfl F3 rfl hC0 rfl (by omega) (wanted_none rfl) (v := Value.int .i64 wd) (fun wr hwr => by simp only [execOp, (F3.eval 13 (by omega)).trans (show _ = Value.pointer (some ⟨b5, 0, none⟩) from by simp [upd, hs1, hs5, hs6, hs7])]; simp [go_sem, show wr.cell? ⟨b5, 0, none⟩ = some (.int .i64 wd) from hwr.2.1.cell 0]) fun a4 F4 => ?_
  refine py (k := 5) rfl F4 rfl hC0 rfl (by omega) (wanted_none rfl) (v := Value.pointer (some ⟨b7, 1, none⟩)) (fun wr hwr => by simp only [execOp, (F4.eval 7 (by omega)).trans (show _ = Value.pointer (some ⟨b7, 0, none⟩) from by simp [upd, hs1, hs5, hs6, hs7])]; simp [go_sem]) fun a5 F5 => ?_
  refine py (k := 6) rfl F5 rfl hC0 rfl (by omega) (wanted_none rfl) (v := Value.int .i64 s.u) (fun wr hwr => by simp only [execOp, (F5.eval 16 (by omega)).trans (show _ = Value.pointer (some ⟨b7, 1, none⟩) from by simp [upd, hs1, hs5, hs6, hs7])]; simp [go_sem, show wr.cell? ⟨b7, 1, none⟩ = some (.int .i64 s.u) from hwr.1.cell 1]) fun a6 F6 => ?_
  refine py (k := 7) rfl F6 rfl hC0 rfl (by omega) (wanted_none rfl) (v := Value.pointer (some ⟨b5, 1, none⟩)) (fun wr hwr => by simp only [execOp, (F6.eval 5 (by omega)).trans (show _ = Value.pointer (some ⟨b5, 0, none⟩) from by simp [upd, hs1, hs5, hs6, hs7])]; simp [go_sem]) fun a7 F7 => ?_
  refine py (k := 8) rfl F7 rfl hC0 rfl (by omega) (wanted_none rfl) (v := Value.int .i64 wu) (fun wr hwr => by simp only [execOp, (F7.eval 18 (by omega)).trans (show _ = Value.pointer (some ⟨b5, 1, none⟩) from by simp [upd, hs1, hs5, hs6, hs7])]; simp [go_sem, show wr.cell? ⟨b5, 1, none⟩ = some (.int .i64 wu) from hwr.2.1.cell 1]) fun a8 F8 => ?_
  refine pfork hC0 ?_ ?_
  · refine pc' (k := 4) rfl F8 rfl rfl (by omega) (wanted_none rfl) (g := 47) (args := #[.int .i64 s.d, .int .i64 wd]) (by simp only [execOp, resolve, invoke, List.map_toArray, List.map_cons, List.map_nil, (F8.eval 12 (by omega)).trans (show _ = Value.int .i64 s.d from by simp [upd, hs1, hs5, hs6, hs7]), (F8.eval 14 (by omega)).trans (show _ = Value.int .i64 wd from by simp [upd, hs1, hs5, hs6, hs7])]; simp [go_sem, Act.eval]) (HG1.out ({ X with drawn := X.drawn + 1 } : World)) ?_
    rintro e9 V1 ⟨rfl, hv1⟩
    refine ⟨_, rfl, fun aA1 FA1 => ?_⟩
    have hC1 : (fun wq => Blk wq b7 #[.int .i64 s.d, .int .i64 s.u] 36 ∧ Blk wq b5 #[.int .i64 wd, .int .i64 wu] 36 ∧ Below X.heap.size X wq) V1 := by rw [hv1]; exact hC0
    refine pfork hC1 ?_ ?_
    · refine pc' (k := 9) rfl FA1 rfl rfl (by omega) (wanted_none rfl) (g := 47) (args := #[.int .i64 s.u, .int .i64 wu]) (by simp only [execOp, resolve, invoke, List.map_toArray, List.map_cons, List.map_nil, (FA1.eval 17 (by omega)).trans (show _ = Value.int .i64 s.u from by simp [upd, hs1, hs5, hs6, hs7]), (FA1.eval 19 (by omega)).trans (show _ = Value.int .i64 wu from by simp [upd, hs1, hs5, hs6, hs7])]; simp [go_sem, Act.eval]) (HG2.out V1) ?_
      rintro e9 V2 ⟨rfl, hv2⟩
      refine ⟨_, rfl, fun aB1 FB1 => ?_⟩
      have hC2 : (fun wq => Blk wq b7 #[.int .i64 s.d, .int .i64 s.u] 36 ∧ Blk wq b5 #[.int .i64 wd, .int .i64 wu] 36 ∧ Below X.heap.size X wq) V2 := by rw [hv2]; exact hC1
      refine py (k := 10) rfl FB1 rfl hC2 rfl (by omega) (wanted_none rfl) (v := Value.agg #[.int .i64 g1, .int .i64 g2]) (fun wr hwr => by simp only [execOp, List.map_toArray, List.map_cons, List.map_nil, (FB1.eval 15 (by omega)).trans (show _ = Value.int .i64 g1 from by simp [upd, hs1, hs5, hs6, hs7]), (FB1.eval 20 (by omega)).trans (show _ = Value.int .i64 g2 from by simp [upd, hs1, hs5, hs6, hs7])]; simp [go_sem]; try rfl) fun aB2 FB2 => ?_
      refine pe (k := 11) rfl FB2 rfl hC2 rfl (by omega) (wanted_none rfl) (v := Value.pointer (some ⟨V2.heap.size, 0, none⟩)) (w1 := V2.alloc (.cells #[.int .i64 0, .int .i64 0] 36)) (by simp only [execOp]; simp [go_sem, zero36]) fun aB3 FB3 => ?_
      have hBz : Blk (V2.alloc (.cells #[.int .i64 0, .int .i64 0] 36)) V2.heap.size #[.int .i64 0, .int .i64 0] 36 := heap_alloc_new V2 _
      have hbz : Below V2.heap.size V2 (V2.alloc (.cells #[.int .i64 0, .int .i64 0] 36)) := (Below.refl _ _).alloc (Nat.le_refl _) _
      have hCz : (fun wq => Blk wq b7 #[.int .i64 s.d, .int .i64 s.u] 36 ∧ Blk wq b5 #[.int .i64 wd, .int .i64 wu] 36 ∧ Below X.heap.size X wq) (V2.alloc (.cells #[.int .i64 0, .int .i64 0] 36)) := ⟨hC2.1.below hbz hC2.1.lt, hC2.2.1.below hbz hC2.2.1.lt, hC2.2.2.trans (hbz.mono hC2.2.2.size)⟩
      have hlz : X.heap.size ≤ V2.heap.size := hC2.2.2.size
      obtain ⟨Y, hY⟩ : ∃ Y, Y = ((World.setCell (V2.alloc (.cells #[.int .i64 0, .int .i64 0] 36)) ⟨V2.heap.size, 0, none⟩ (.int .i64 g1)).setCell ⟨V2.heap.size, 1, none⟩ (.int .i64 g2)) := ⟨_, rfl⟩
      have hBy : Blk Y V2.heap.size #[.int .i64 g1, .int .i64 g2] 36 := by rw [hY]; exact (Blk.set hBz 0 (.int .i64 g1)).set 1 (.int .i64 g2)
      have hCy : Below X.heap.size X Y := by rw [hY]; exact set2_below hCz.2.2 hlz _ _
      refine ps (k := 12) rfl rfl hCz rfl (wanted_none rfl) (w1 := Y) (by rw [hY]; exact storeR hBz g1 g2 rfl ((FB3.eval 8 (by omega)).trans (show _ = Value.pointer (some ⟨V2.heap.size, 0, none⟩) from by simp [upd, hs1, hs5, hs6, hs7])) ((FB3.eval 21 (by omega)).trans (show _ = Value.agg #[.int .i64 g1, .int .i64 g2] from by simp [upd, hs1, hs5, hs6, hs7]))) ?_
      refine pdone (fun h => by cases h) ?_
      exact hrest _ _ Y V2.heap.size FB3 (show _ = Value.pointer (some ⟨lb, 0, none⟩) from by simp [upd, hs1, hs5, hs6, hs7]) (show _ = Value.pointer (some ⟨b6, 0, none⟩) from by simp [upd, hs1, hs5, hs6, hs7]) (show _ = Value.pointer (some ⟨V2.heap.size, 0, none⟩) from by simp [upd, hs1, hs5, hs6, hs7]) hBy hCy hlz
    · refine pe' (k := 11) rfl FA1 rfl rfl (by omega) (wanted_none rfl) (v := Value.pointer (some ⟨V1.heap.size, 0, none⟩)) (w1 := V1.alloc (.cells #[.int .i64 0, .int .i64 0] 36)) (by simp only [execOp]; simp [go_sem, zero36]) fun aC1 FC1 => ?_
      have hBz : Blk (V1.alloc (.cells #[.int .i64 0, .int .i64 0] 36)) V1.heap.size #[.int .i64 0, .int .i64 0] 36 := heap_alloc_new V1 _
      have hbz : Below V1.heap.size V1 (V1.alloc (.cells #[.int .i64 0, .int .i64 0] 36)) := (Below.refl _ _).alloc (Nat.le_refl _) _
      have hCz : (fun wq => Blk wq b7 #[.int .i64 s.d, .int .i64 s.u] 36 ∧ Blk wq b5 #[.int .i64 wd, .int .i64 wu] 36 ∧ Below X.heap.size X wq) (V1.alloc (.cells #[.int .i64 0, .int .i64 0] 36)) := ⟨hC1.1.below hbz hC1.1.lt, hC1.2.1.below hbz hC1.2.1.lt, hC1.2.2.trans (hbz.mono hC1.2.2.size)⟩
      have hlz : X.heap.size ≤ V1.heap.size := hC1.2.2.size
      refine pc (k := 9) rfl FC1 rfl hCz rfl (by omega) (wanted_none rfl) (g := 47) (args := #[.int .i64 s.u, .int .i64 wu]) (by simp only [execOp, resolve, invoke, List.map_toArray, List.map_cons, List.map_nil, (FC1.eval 17 (by omega)).trans (show _ = Value.int .i64 s.u from by simp [upd, hs1, hs5, hs6, hs7]), (FC1.eval 19 (by omega)).trans (show _ = Value.int .i64 wu from by simp [upd, hs1, hs5, hs6, hs7])]; simp [go_sem, Act.eval]) (HG2.out (V1.alloc (.cells #[.int .i64 0, .int .i64 0] 36))) ?_
      rintro e9 V2 ⟨rfl, hv2⟩
      refine ⟨_, rfl, fun aC2 FC2 => ?_⟩
      have hC2 : (fun wq => Blk wq b7 #[.int .i64 s.d, .int .i64 s.u] 36 ∧ Blk wq b5 #[.int .i64 wd, .int .i64 wu] 36 ∧ Below X.heap.size X wq) V2 := by rw [hv2]; exact hCz
      have hB2 : Blk V2 V1.heap.size #[.int .i64 0, .int .i64 0] 36 := by rw [hv2]; exact hBz
      refine py (k := 10) rfl FC2 rfl hC2 rfl (by omega) (wanted_none rfl) (v := Value.agg #[.int .i64 g1, .int .i64 g2]) (fun wr hwr => by simp only [execOp, List.map_toArray, List.map_cons, List.map_nil, (FC2.eval 15 (by omega)).trans (show _ = Value.int .i64 g1 from by simp [upd, hs1, hs5, hs6, hs7]), (FC2.eval 20 (by omega)).trans (show _ = Value.int .i64 g2 from by simp [upd, hs1, hs5, hs6, hs7])]; simp [go_sem]; try rfl) fun aC3 FC3 => ?_
      obtain ⟨Y, hY⟩ : ∃ Y, Y = ((World.setCell V2 ⟨V1.heap.size, 0, none⟩ (.int .i64 g1)).setCell ⟨V1.heap.size, 1, none⟩ (.int .i64 g2)) := ⟨_, rfl⟩
      have hBy : Blk Y V1.heap.size #[.int .i64 g1, .int .i64 g2] 36 := by rw [hY]; exact (Blk.set hB2 0 (.int .i64 g1)).set 1 (.int .i64 g2)
      have hCy : Below X.heap.size X Y := by rw [hY]; exact set2_below hC2.2.2 hlz _ _
      refine ps (k := 12) rfl rfl hC2 rfl (wanted_none rfl) (w1 := Y) (by rw [hY]; exact storeR hB2 g1 g2 rfl ((FC3.eval 8 (by omega)).trans (show _ = Value.pointer (some ⟨V1.heap.size, 0, none⟩) from by simp [upd, hs1, hs5, hs6, hs7])) ((FC3.eval 21 (by omega)).trans (show _ = Value.agg #[.int .i64 g1, .int .i64 g2] from by simp [upd, hs1, hs5, hs6, hs7]))) ?_
      refine pdone (fun h => by cases h) ?_
      exact hrest _ _ Y V1.heap.size FC3 (show _ = Value.pointer (some ⟨lb, 0, none⟩) from by simp [upd, hs1, hs5, hs6, hs7]) (show _ = Value.pointer (some ⟨b6, 0, none⟩) from by simp [upd, hs1, hs5, hs6, hs7]) (show _ = Value.pointer (some ⟨V1.heap.size, 0, none⟩) from by simp [upd, hs1, hs5, hs6, hs7]) hBy hCy hlz
  · refine pe' (k := 11) rfl F8 rfl rfl (by omega) (wanted_none rfl) (v := Value.pointer (some ⟨({ X with drawn := X.drawn + 1 } : World).heap.size, 0, none⟩)) (w1 := ({ X with drawn := X.drawn + 1 } : World).alloc (.cells #[.int .i64 0, .int .i64 0] 36)) (by simp only [execOp]; simp [go_sem, zero36]) fun aD1 FD1 => ?_
    have hBz : Blk (({ X with drawn := X.drawn + 1 } : World).alloc (.cells #[.int .i64 0, .int .i64 0] 36)) ({ X with drawn := X.drawn + 1 } : World).heap.size #[.int .i64 0, .int .i64 0] 36 := heap_alloc_new ({ X with drawn := X.drawn + 1 } : World) _
    have hbz : Below ({ X with drawn := X.drawn + 1 } : World).heap.size ({ X with drawn := X.drawn + 1 } : World) (({ X with drawn := X.drawn + 1 } : World).alloc (.cells #[.int .i64 0, .int .i64 0] 36)) := (Below.refl _ _).alloc (Nat.le_refl _) _
    have hCz : (fun wq => Blk wq b7 #[.int .i64 s.d, .int .i64 s.u] 36 ∧ Blk wq b5 #[.int .i64 wd, .int .i64 wu] 36 ∧ Below X.heap.size X wq) (({ X with drawn := X.drawn + 1 } : World).alloc (.cells #[.int .i64 0, .int .i64 0] 36)) := ⟨hC0.1.below hbz hC0.1.lt, hC0.2.1.below hbz hC0.2.1.lt, hC0.2.2.trans (hbz.mono hC0.2.2.size)⟩
    have hlz : X.heap.size ≤ ({ X with drawn := X.drawn + 1 } : World).heap.size := hC0.2.2.size
    refine pc (k := 4) rfl FD1 rfl hCz rfl (by omega) (wanted_none rfl) (g := 47) (args := #[.int .i64 s.d, .int .i64 wd]) (by simp only [execOp, resolve, invoke, List.map_toArray, List.map_cons, List.map_nil, (FD1.eval 12 (by omega)).trans (show _ = Value.int .i64 s.d from by simp [upd, hs1, hs5, hs6, hs7]), (FD1.eval 14 (by omega)).trans (show _ = Value.int .i64 wd from by simp [upd, hs1, hs5, hs6, hs7])]; simp [go_sem, Act.eval]) (HG1.out (({ X with drawn := X.drawn + 1 } : World).alloc (.cells #[.int .i64 0, .int .i64 0] 36))) ?_
    rintro e9 V1 ⟨rfl, hv1⟩
    refine ⟨_, rfl, fun aD2 FD2 => ?_⟩
    have hC1 : (fun wq => Blk wq b7 #[.int .i64 s.d, .int .i64 s.u] 36 ∧ Blk wq b5 #[.int .i64 wd, .int .i64 wu] 36 ∧ Below X.heap.size X wq) V1 := by rw [hv1]; exact hCz
    have hB1 : Blk V1 ({ X with drawn := X.drawn + 1 } : World).heap.size #[.int .i64 0, .int .i64 0] 36 := by rw [hv1]; exact hBz
    refine pc (k := 9) rfl FD2 rfl hC1 rfl (by omega) (wanted_none rfl) (g := 47) (args := #[.int .i64 s.u, .int .i64 wu]) (by simp only [execOp, resolve, invoke, List.map_toArray, List.map_cons, List.map_nil, (FD2.eval 17 (by omega)).trans (show _ = Value.int .i64 s.u from by simp [upd, hs1, hs5, hs6, hs7]), (FD2.eval 19 (by omega)).trans (show _ = Value.int .i64 wu from by simp [upd, hs1, hs5, hs6, hs7])]; simp [go_sem, Act.eval]) (HG2.out V1) ?_
    rintro e9 V2 ⟨rfl, hv2⟩
    refine ⟨_, rfl, fun aD3 FD3 => ?_⟩
    have hC2 : (fun wq => Blk wq b7 #[.int .i64 s.d, .int .i64 s.u] 36 ∧ Blk wq b5 #[.int .i64 wd, .int .i64 wu] 36 ∧ Below X.heap.size X wq) V2 := by rw [hv2]; exact hC1
    have hB2 : Blk V2 ({ X with drawn := X.drawn + 1 } : World).heap.size #[.int .i64 0, .int .i64 0] 36 := by rw [hv2]; exact hB1
    refine py (k := 10) rfl FD3 rfl hC2 rfl (by omega) (wanted_none rfl) (v := Value.agg #[.int .i64 g1, .int .i64 g2]) (fun wr hwr => by simp only [execOp, List.map_toArray, List.map_cons, List.map_nil, (FD3.eval 15 (by omega)).trans (show _ = Value.int .i64 g1 from by simp [upd, hs1, hs5, hs6, hs7]), (FD3.eval 20 (by omega)).trans (show _ = Value.int .i64 g2 from by simp [upd, hs1, hs5, hs6, hs7])]; simp [go_sem]; try rfl) fun aD4 FD4 => ?_
    obtain ⟨Y, hY⟩ : ∃ Y, Y = ((World.setCell V2 ⟨({ X with drawn := X.drawn + 1 } : World).heap.size, 0, none⟩ (.int .i64 g1)).setCell ⟨({ X with drawn := X.drawn + 1 } : World).heap.size, 1, none⟩ (.int .i64 g2)) := ⟨_, rfl⟩
    have hBy : Blk Y ({ X with drawn := X.drawn + 1 } : World).heap.size #[.int .i64 g1, .int .i64 g2] 36 := by rw [hY]; exact (Blk.set hB2 0 (.int .i64 g1)).set 1 (.int .i64 g2)
    have hCy : Below X.heap.size X Y := by rw [hY]; exact set2_below hC2.2.2 hlz _ _
    refine ps (k := 12) rfl rfl hC2 rfl (wanted_none rfl) (w1 := Y) (by rw [hY]; exact storeR hB2 g1 g2 rfl ((FD4.eval 8 (by omega)).trans (show _ = Value.pointer (some ⟨({ X with drawn := X.drawn + 1 } : World).heap.size, 0, none⟩) from by simp [upd, hs1, hs5, hs6, hs7])) ((FD4.eval 21 (by omega)).trans (show _ = Value.agg #[.int .i64 g1, .int .i64 g2] from by simp [upd, hs1, hs5, hs6, hs7]))) ?_
    refine pdone (fun h => by cases h) ?_
    exact hrest _ _ Y ({ X with drawn := X.drawn + 1 } : World).heap.size FD4 (show _ = Value.pointer (some ⟨lb, 0, none⟩) from by simp [upd, hs1, hs5, hs6, hs7]) (show _ = Value.pointer (some ⟨b6, 0, none⟩) from by simp [upd, hs1, hs5, hs6, hs7]) (show _ = Value.pointer (some ⟨({ X with drawn := X.drawn + 1 } : World).heap.size, 0, none⟩) from by simp [upd, hs1, hs5, hs6, hs7]) hBy hCy hlz
set_option maxRecDepth 100000 in
set_option maxHeartbeats 6400000 in
theorem rggive_any {gb lb : Nat} {s : Led.LS} (wd wu : Int) (w : World) (hB : Blk w lb s.cs 94) (ho : s.Ok) (hd : IntKind.i64.wrap s.d = s.d) (hu : IntKind.i64.wrap s.u = s.u) :
    Calls Tryd.prog 32 #[.pointer (some ⟨gb, 0, none⟩), .pointer (some ⟨lb, 0, none⟩), .agg #[.int .i64 wd, .int .i64 wu]] w fun e w' => e = .returned (.agg #[.int .i64 (giveI s.d wd), .int .i64 (giveI s.u wu)]) ∧ Blk w' lb (s.onext (giveI s.d wd) (giveI s.u wu)).cs 94 ∧ Chg (fun k => k = lb) w w' := by
  obtain ⟨b5, hb5⟩ : ∃ b, b = w.heap.size := ⟨_, rfl⟩
  obtain ⟨b6, hb6⟩ : ∃ b, b = b5 + 1 := ⟨_, rfl⟩
  obtain ⟨X0, hX0⟩ : ∃ X, X = (w.alloc (.cells #[.int .i64 wd, .int .i64 wu] 36)).alloc (.cells #[.int .i64 0, .int .i64 0] 36) := ⟨_, rfl⟩
  have hbX0 : Below w.heap.size w X0 := by rw [hX0]; exact ((Below.refl _ _).alloc (Nat.le_refl _) _).alloc (by simp) _
  have hB5 : Blk X0 b5 #[.int .i64 wd, .int .i64 wu] 36 := by rw [hX0, hb5]; exact (Below.heap_alloc _ _ _ (by simp)).trans (heap_alloc_new w _)
  have hB6 : Blk X0 b6 #[.int .i64 0, .int .i64 0] 36 := by rw [hX0, hb6, hb5]; have := heap_alloc_new (w.alloc (.cells #[.int .i64 wd, .int .i64 wu] 36)) (.cells #[.int .i64 0, .int .i64 0] 36); rwa [World.size_alloc] at this
  have HRI : Hid _ := Led.rrights_any X0 (hB.below hbX0 hB.lt)
  have HG1 : Hid (∀ W, _) := fun W => rgive_any s.d wd hd W
  have HG2 : Hid (∀ W, _) := fun W => rgive_any s.u wu hu W
  have HON : Hid (∀ W g1 g2, Below w.heap.size w W → Calls Tryd.prog 38 #[.pointer (some ⟨lb, 0, none⟩), .agg #[.int .i64 g1, .int .i64 g2]] W fun r w' => r = .returned (.int .i64 (s.ocode g1 g2)) ∧ Blk w' lb (s.onext g1 g2).cs 94 ∧ Led.Stq lb W w') := fun W g1 g2 hb => Led.rout_any W (hB.below hb hB.lt) ho g1 g2
  have HB : Hid (Blk w lb s.cs 94) := hB
  have HLO : Hid (lb < b5 ∧ b5 = w.heap.size ∧ b6 = b5 + 1) := ⟨by rw [hb5]; exact hB.lt, hb5, hb6⟩
  have HX0 : Hid (Below w.heap.size w X0) := hbX0
  have HB50 : Hid (Blk X0 b5 #[.int .i64 wd, .int .i64 wu] 36) := hB5
  have HB60 : Hid (Blk X0 b6 #[.int .i64 0, .int .i64 0] 36) := hB6
  generalize giveI s.d wd = g1 at *
  generalize giveI s.u wu = g2 at *
  clear hB ho hd hu hbX0 hB5 hB6
  go_enter Tryd.func32, Tryd.ntmps32
  go_upto_region 1 with fail
  rw [← hX0, ← hb5, ← hb6]
  clear hX0 hb5 hb6
  go_wp2_with fail
  refine Calls.mono HRI.out ?_
  rintro e9 V0 ⟨rfl, hb0⟩
  obtain ⟨b7, hb7⟩ : ∃ b, b = V0.heap.size := ⟨_, rfl⟩
  obtain ⟨X, hX⟩ : ∃ X, X = V0.alloc (.cells #[.int .i64 s.d, .int .i64 s.u] 36) := ⟨_, rfl⟩
  have hbx : Below V0.heap.size V0 X := by rw [hX]; exact (Below.refl _ _).alloc (Nat.le_refl _) _
  have hbX : Below X0.heap.size X0 X := hb0.trans (hbx.mono hb0.size)
  have HB7 : Hid (Blk X b7 #[.int .i64 s.d, .int .i64 s.u] 36) := show Blk X b7 #[.int .i64 s.d, .int .i64 s.u] 36 from by rw [hX, hb7]; exact heap_alloc_new V0 _
  have HB5 : Hid (Blk X b5 #[.int .i64 wd, .int .i64 wu] 36) := HB50.out.below hbX HB50.out.lt
  have HB6 : Hid (Blk X b6 #[.int .i64 0, .int .i64 0] 36) := HB60.out.below hbX HB60.out.lt
  have HBX : Hid (Below w.heap.size w X) := HX0.out.trans (hbX.mono HX0.out.size)
  go_upto_region 2 with fail
  rw [← hX, ← hb7]
  clear hX hb7 hbx hbX hb0 HRI HB50 HB60 HX0
  go_wp2_with fail
  rename_i K hK
  try rw [show ∀ a : Act, a.put none undef = a from fun _ => rfl]
  have hrest : ∀ (a : Act) (f' : Nat → Value) (Y : World) (bx : Nat), Fr 26 a f' → f' 1 = Value.pointer (some ⟨lb, 0, none⟩) → f' 6 = Value.pointer (some ⟨b6, 0, none⟩) → f' 8 = Value.pointer (some ⟨bx, 0, none⟩) → Blk Y bx #[.int .i64 g1, .int .i64 g2] 36 → Below X.heap.size X Y → X.heap.size ≤ bx → K a Y := by
    intro a f' Y bx F' k1 k6 k8 hBx hCx hlx
    refine hK _ _ ?_
    rw [F'.lit, show ((List.range 26).map f').toArray = #[f' 0, f' 1, f' 2, f' 3, f' 4, f' 5, f' 6, f' 7, f' 8, f' 9, f' 10, f' 11, f' 12, f' 13, f' 14, f' 15, f' 16, f' 17, f' 18, f' 19, f' 20, f' 21, f' 22, f' 23, f' 24, f' 25] from rfl, k1, k6, k8]
    have hwY : Below w.heap.size w Y := HBX.out.trans (hCx.mono HBX.out.size)
    have HO : Hid _ := HON.out Y g1 g2 hwY
    have y0 : Y.cell? ⟨bx, 0, none⟩ = some (.int .i64 g1) := hBx.cell 0
    have y1 : Y.cell? ⟨bx, 1, none⟩ = some (.int .i64 g2) := hBx.cell 1
    have HBx : Hid (Blk Y bx #[.int .i64 g1, .int .i64 g2] 36) := hBx
    have HB6Y : Hid (Blk Y b6 #[.int .i64 0, .int .i64 0] 36) := HB6.out.below hCx HB6.out.lt
    have HWY : Hid (Below w.heap.size w Y) := hwY
    have HBL : Hid (Blk Y lb s.cs 94) := HB.out.below hwY HB.out.lt
    have HNX : Hid (b6 ≠ bx) := show b6 ≠ bx from by have := HB6.out.lt; omega
    clear hK F' k1 k6 k8 hBx hCx hlx hwY
    go_wp2_with fail
    refine Calls.mono HO.out ?_
    rintro e9 U ⟨rfl, hU, hst⟩
    have hcU := Stq_chg hst
    have hBxU : Blk U bx #[.int .i64 g1, .int .i64 g2] 36 := hcU.blk HBx.out (Blk.ne_t HBx.out HBL.out (by decide))
    have hB6U : Blk U b6 #[.int .i64 0, .int .i64 0] 36 := hcU.blk HB6Y.out (Blk.ne_t HB6Y.out HBL.out (by decide))
    have u0 : U.cell? ⟨bx, 0, none⟩ = some (.int .i64 g1) := hBxU.cell 0
    have u1 : U.cell? ⟨bx, 1, none⟩ = some (.int .i64 g2) := hBxU.cell 1
    have v0 : U.cell? ⟨b6, 0, none⟩ = some (.int .i64 0) := hB6U.cell 0
    have v1 : U.cell? ⟨b6, 1, none⟩ = some (.int .i64 0) := hB6U.cell 1
    have f0 : U.frozen? ⟨b6, 0, none⟩ = false := hB6U.frozen 0
    have f1 : U.frozen? ⟨b6, 1, none⟩ = false := hB6U.frozen 1
    have HBU6 : Hid (Blk ((U.setCell ⟨b6, 0, none⟩ (.int .i64 g1)).setCell ⟨b6, 1, none⟩ (.int .i64 g2)) b6 #[.int .i64 g1, .int .i64 g2] 36) := (hB6U.set 0 (.int .i64 g1)).set 1 (.int .i64 g2)
    have hc6 : Chg (fun k => k = b6) U ((U.setCell ⟨b6, 0, none⟩ (.int .i64 g1)).setCell ⟨b6, 1, none⟩ (.int .i64 g2)) := (setCell_chg U b6 0 _).trans (setCell_chg _ b6 1 _) (fun _ _ e => e)
    have HLU : Hid (Blk ((U.setCell ⟨b6, 0, none⟩ (.int .i64 g1)).setCell ⟨b6, 1, none⟩ (.int .i64 g2)) lb (s.onext g1 g2).cs 94) := hc6.blk hU (by have := HLO.out; omega)
    have HCF : Hid (Chg (fun k => k = lb) w ((U.setCell ⟨b6, 0, none⟩ (.int .i64 g1)).setCell ⟨b6, 1, none⟩ (.int .i64 g2))) := ((Chg.ofBelow _ HWY.out).trans hcU (fun _ _ e => e)).trans hc6 (fun j hj e => by have := HLO.out; omega)
    clear hU hst hcU hBxU hB6U hc6 y0 y1
    go_wp2_with fail
    refine bodyPost_ret (results_cell_row Tryd.results32 _ _ b6 36 _ (0, 0) _ rfl HBU6.out Tryd.underlying36 rfl (by kernel_rfl)) rfl ?_
    exact ⟨rfl, HLU.out, HCF.out⟩
  refine wp_region_plan (fun wq => Blk wq b7 #[.int .i64 s.d, .int .i64 s.u] 36 ∧ Blk wq b5 #[.int .i64 wd, .int .i64 wu] 36 ∧ Below X.heap.size X wq) (fun i => i == 4 || i == 9 || i == 11 || i == 12) 12 (.one 0 (.one 1 (.one 2 (.one 3 (.one 5 (.one 6 (.one 7 (.one 8 (.two 4 11 (.two 9 11 (.one 10 (.one 11 (.one 12 (.done)))) (.one 9 (.one 10 (.one 12 (.done))))) (.one 4 (.one 9 (.one 10 (.one 12 (.done))))))))))))) ) (by kernel_rfl) rfl (by kernel_rfl) (by kernel_rfl) rfl (by kernel_rfl) ?_
  refine withFrG (N := 26) rfl ?_
  intro a0 f0 F0 hff
  have hs1 : f0 1 = Value.pointer (some ⟨lb, 0, none⟩) := hff 1
  have hs5 : f0 5 = Value.pointer (some ⟨b5, 0, none⟩) := hff 5
  have hs6 : f0 6 = Value.pointer (some ⟨b6, 0, none⟩) := hff 6
  have hs7 : f0 7 = Value.pointer (some ⟨b7, 0, none⟩) := hff 7
  clear hff
  have hC0 : (fun wq => Blk wq b7 #[.int .i64 s.d, .int .i64 s.u] 36 ∧ Blk wq b5 #[.int .i64 wd, .int .i64 wu] 36 ∧ Below X.heap.size X wq) ({ X with drawn := X.drawn + 1 } : World) := ⟨HB7.out, HB5.out, Below.drew (Below.refl X.heap.size X)⟩
  refine py (k := 0) rfl F0 rfl hC0 rfl (by omega) (wanted_none rfl) (v := Value.pointer (some ⟨b7, 0, none⟩)) (fun wr hwr => by simp only [execOp, (F0.eval 7 (by omega)).trans (show _ = Value.pointer (some ⟨b7, 0, none⟩) from by simp [upd, hs1, hs5, hs6, hs7])]; simp [go_sem]) fun a1 F1 => ?_
  refine py (k := 1) rfl F1 rfl hC0 rfl (by omega) (wanted_none rfl) (v := Value.int .i64 s.d) (fun wr hwr => by simp only [execOp, (F1.eval 11 (by omega)).trans (show _ = Value.pointer (some ⟨b7, 0, none⟩) from by simp [upd, hs1, hs5, hs6, hs7])]; simp [go_sem, show wr.cell? ⟨b7, 0, none⟩ = some (.int .i64 s.d) from hwr.1.cell 0]) fun a2 F2 => ?_
  refine py (k := 2) rfl F2 rfl hC0 rfl (by omega) (wanted_none rfl) (v := Value.pointer (some ⟨b5, 0, none⟩)) (fun wr hwr => by simp only [execOp, (F2.eval 5 (by omega)).trans (show _ = Value.pointer (some ⟨b5, 0, none⟩) from by simp [upd, hs1, hs5, hs6, hs7])]; simp [go_sem]) fun a3 F3 => ?_
  refine py (k := 3) rfl F3 rfl hC0 rfl (by omega) (wanted_none rfl) (v := Value.int .i64 wd) (fun wr hwr => by simp only [execOp, (F3.eval 13 (by omega)).trans (show _ = Value.pointer (some ⟨b5, 0, none⟩) from by simp [upd, hs1, hs5, hs6, hs7])]; simp [go_sem, show wr.cell? ⟨b5, 0, none⟩ = some (.int .i64 wd) from hwr.2.1.cell 0]) fun a4 F4 => ?_
  refine py (k := 5) rfl F4 rfl hC0 rfl (by omega) (wanted_none rfl) (v := Value.pointer (some ⟨b7, 1, none⟩)) (fun wr hwr => by simp only [execOp, (F4.eval 7 (by omega)).trans (show _ = Value.pointer (some ⟨b7, 0, none⟩) from by simp [upd, hs1, hs5, hs6, hs7])]; simp [go_sem]) fun a5 F5 => ?_
  refine py (k := 6) rfl F5 rfl hC0 rfl (by omega) (wanted_none rfl) (v := Value.int .i64 s.u) (fun wr hwr => by simp only [execOp, (F5.eval 16 (by omega)).trans (show _ = Value.pointer (some ⟨b7, 1, none⟩) from by simp [upd, hs1, hs5, hs6, hs7])]; simp [go_sem, show wr.cell? ⟨b7, 1, none⟩ = some (.int .i64 s.u) from hwr.1.cell 1]) fun a6 F6 => ?_
  refine py (k := 7) rfl F6 rfl hC0 rfl (by omega) (wanted_none rfl) (v := Value.pointer (some ⟨b5, 1, none⟩)) (fun wr hwr => by simp only [execOp, (F6.eval 5 (by omega)).trans (show _ = Value.pointer (some ⟨b5, 0, none⟩) from by simp [upd, hs1, hs5, hs6, hs7])]; simp [go_sem]) fun a7 F7 => ?_
  refine py (k := 8) rfl F7 rfl hC0 rfl (by omega) (wanted_none rfl) (v := Value.int .i64 wu) (fun wr hwr => by simp only [execOp, (F7.eval 18 (by omega)).trans (show _ = Value.pointer (some ⟨b5, 1, none⟩) from by simp [upd, hs1, hs5, hs6, hs7])]; simp [go_sem, show wr.cell? ⟨b5, 1, none⟩ = some (.int .i64 wu) from hwr.2.1.cell 1]) fun a8 F8 => ?_
  refine pfork hC0 ?_ ?_
  · refine pc' (k := 4) rfl F8 rfl rfl (by omega) (wanted_none rfl) (g := 48) (args := #[.int .i64 s.d, .int .i64 wd]) (by simp only [execOp, resolve, invoke, List.map_toArray, List.map_cons, List.map_nil, (F8.eval 12 (by omega)).trans (show _ = Value.int .i64 s.d from by simp [upd, hs1, hs5, hs6, hs7]), (F8.eval 14 (by omega)).trans (show _ = Value.int .i64 wd from by simp [upd, hs1, hs5, hs6, hs7])]; simp [go_sem, Act.eval]) (HG1.out ({ X with drawn := X.drawn + 1 } : World)) ?_
    rintro e9 V1 ⟨rfl, hv1⟩
    refine ⟨_, rfl, fun aA1 FA1 => ?_⟩
    have hC1 : (fun wq => Blk wq b7 #[.int .i64 s.d, .int .i64 s.u] 36 ∧ Blk wq b5 #[.int .i64 wd, .int .i64 wu] 36 ∧ Below X.heap.size X wq) V1 := by rw [hv1]; exact hC0
    refine pfork hC1 ?_ ?_
    · refine pc' (k := 9) rfl FA1 rfl rfl (by omega) (wanted_none rfl) (g := 48) (args := #[.int .i64 s.u, .int .i64 wu]) (by simp only [execOp, resolve, invoke, List.map_toArray, List.map_cons, List.map_nil, (FA1.eval 17 (by omega)).trans (show _ = Value.int .i64 s.u from by simp [upd, hs1, hs5, hs6, hs7]), (FA1.eval 19 (by omega)).trans (show _ = Value.int .i64 wu from by simp [upd, hs1, hs5, hs6, hs7])]; simp [go_sem, Act.eval]) (HG2.out V1) ?_
      rintro e9 V2 ⟨rfl, hv2⟩
      refine ⟨_, rfl, fun aB1 FB1 => ?_⟩
      have hC2 : (fun wq => Blk wq b7 #[.int .i64 s.d, .int .i64 s.u] 36 ∧ Blk wq b5 #[.int .i64 wd, .int .i64 wu] 36 ∧ Below X.heap.size X wq) V2 := by rw [hv2]; exact hC1
      refine py (k := 10) rfl FB1 rfl hC2 rfl (by omega) (wanted_none rfl) (v := Value.agg #[.int .i64 g1, .int .i64 g2]) (fun wr hwr => by simp only [execOp, List.map_toArray, List.map_cons, List.map_nil, (FB1.eval 15 (by omega)).trans (show _ = Value.int .i64 g1 from by simp [upd, hs1, hs5, hs6, hs7]), (FB1.eval 20 (by omega)).trans (show _ = Value.int .i64 g2 from by simp [upd, hs1, hs5, hs6, hs7])]; simp [go_sem]; try rfl) fun aB2 FB2 => ?_
      refine pe (k := 11) rfl FB2 rfl hC2 rfl (by omega) (wanted_none rfl) (v := Value.pointer (some ⟨V2.heap.size, 0, none⟩)) (w1 := V2.alloc (.cells #[.int .i64 0, .int .i64 0] 36)) (by simp only [execOp]; simp [go_sem, zero36]) fun aB3 FB3 => ?_
      have hBz : Blk (V2.alloc (.cells #[.int .i64 0, .int .i64 0] 36)) V2.heap.size #[.int .i64 0, .int .i64 0] 36 := heap_alloc_new V2 _
      have hbz : Below V2.heap.size V2 (V2.alloc (.cells #[.int .i64 0, .int .i64 0] 36)) := (Below.refl _ _).alloc (Nat.le_refl _) _
      have hCz : (fun wq => Blk wq b7 #[.int .i64 s.d, .int .i64 s.u] 36 ∧ Blk wq b5 #[.int .i64 wd, .int .i64 wu] 36 ∧ Below X.heap.size X wq) (V2.alloc (.cells #[.int .i64 0, .int .i64 0] 36)) := ⟨hC2.1.below hbz hC2.1.lt, hC2.2.1.below hbz hC2.2.1.lt, hC2.2.2.trans (hbz.mono hC2.2.2.size)⟩
      have hlz : X.heap.size ≤ V2.heap.size := hC2.2.2.size
      obtain ⟨Y, hY⟩ : ∃ Y, Y = ((World.setCell (V2.alloc (.cells #[.int .i64 0, .int .i64 0] 36)) ⟨V2.heap.size, 0, none⟩ (.int .i64 g1)).setCell ⟨V2.heap.size, 1, none⟩ (.int .i64 g2)) := ⟨_, rfl⟩
      have hBy : Blk Y V2.heap.size #[.int .i64 g1, .int .i64 g2] 36 := by rw [hY]; exact (Blk.set hBz 0 (.int .i64 g1)).set 1 (.int .i64 g2)
      have hCy : Below X.heap.size X Y := by rw [hY]; exact set2_below hCz.2.2 hlz _ _
      refine ps (k := 12) rfl rfl hCz rfl (wanted_none rfl) (w1 := Y) (by rw [hY]; exact storeR hBz g1 g2 rfl ((FB3.eval 8 (by omega)).trans (show _ = Value.pointer (some ⟨V2.heap.size, 0, none⟩) from by simp [upd, hs1, hs5, hs6, hs7])) ((FB3.eval 21 (by omega)).trans (show _ = Value.agg #[.int .i64 g1, .int .i64 g2] from by simp [upd, hs1, hs5, hs6, hs7]))) ?_
      refine pdone (fun h => by cases h) ?_
      exact hrest _ _ Y V2.heap.size FB3 (show _ = Value.pointer (some ⟨lb, 0, none⟩) from by simp [upd, hs1, hs5, hs6, hs7]) (show _ = Value.pointer (some ⟨b6, 0, none⟩) from by simp [upd, hs1, hs5, hs6, hs7]) (show _ = Value.pointer (some ⟨V2.heap.size, 0, none⟩) from by simp [upd, hs1, hs5, hs6, hs7]) hBy hCy hlz
    · refine pe' (k := 11) rfl FA1 rfl rfl (by omega) (wanted_none rfl) (v := Value.pointer (some ⟨V1.heap.size, 0, none⟩)) (w1 := V1.alloc (.cells #[.int .i64 0, .int .i64 0] 36)) (by simp only [execOp]; simp [go_sem, zero36]) fun aC1 FC1 => ?_
      have hBz : Blk (V1.alloc (.cells #[.int .i64 0, .int .i64 0] 36)) V1.heap.size #[.int .i64 0, .int .i64 0] 36 := heap_alloc_new V1 _
      have hbz : Below V1.heap.size V1 (V1.alloc (.cells #[.int .i64 0, .int .i64 0] 36)) := (Below.refl _ _).alloc (Nat.le_refl _) _
      have hCz : (fun wq => Blk wq b7 #[.int .i64 s.d, .int .i64 s.u] 36 ∧ Blk wq b5 #[.int .i64 wd, .int .i64 wu] 36 ∧ Below X.heap.size X wq) (V1.alloc (.cells #[.int .i64 0, .int .i64 0] 36)) := ⟨hC1.1.below hbz hC1.1.lt, hC1.2.1.below hbz hC1.2.1.lt, hC1.2.2.trans (hbz.mono hC1.2.2.size)⟩
      have hlz : X.heap.size ≤ V1.heap.size := hC1.2.2.size
      refine pc (k := 9) rfl FC1 rfl hCz rfl (by omega) (wanted_none rfl) (g := 48) (args := #[.int .i64 s.u, .int .i64 wu]) (by simp only [execOp, resolve, invoke, List.map_toArray, List.map_cons, List.map_nil, (FC1.eval 17 (by omega)).trans (show _ = Value.int .i64 s.u from by simp [upd, hs1, hs5, hs6, hs7]), (FC1.eval 19 (by omega)).trans (show _ = Value.int .i64 wu from by simp [upd, hs1, hs5, hs6, hs7])]; simp [go_sem, Act.eval]) (HG2.out (V1.alloc (.cells #[.int .i64 0, .int .i64 0] 36))) ?_
      rintro e9 V2 ⟨rfl, hv2⟩
      refine ⟨_, rfl, fun aC2 FC2 => ?_⟩
      have hC2 : (fun wq => Blk wq b7 #[.int .i64 s.d, .int .i64 s.u] 36 ∧ Blk wq b5 #[.int .i64 wd, .int .i64 wu] 36 ∧ Below X.heap.size X wq) V2 := by rw [hv2]; exact hCz
      have hB2 : Blk V2 V1.heap.size #[.int .i64 0, .int .i64 0] 36 := by rw [hv2]; exact hBz
      refine py (k := 10) rfl FC2 rfl hC2 rfl (by omega) (wanted_none rfl) (v := Value.agg #[.int .i64 g1, .int .i64 g2]) (fun wr hwr => by simp only [execOp, List.map_toArray, List.map_cons, List.map_nil, (FC2.eval 15 (by omega)).trans (show _ = Value.int .i64 g1 from by simp [upd, hs1, hs5, hs6, hs7]), (FC2.eval 20 (by omega)).trans (show _ = Value.int .i64 g2 from by simp [upd, hs1, hs5, hs6, hs7])]; simp [go_sem]; try rfl) fun aC3 FC3 => ?_
      obtain ⟨Y, hY⟩ : ∃ Y, Y = ((World.setCell V2 ⟨V1.heap.size, 0, none⟩ (.int .i64 g1)).setCell ⟨V1.heap.size, 1, none⟩ (.int .i64 g2)) := ⟨_, rfl⟩
      have hBy : Blk Y V1.heap.size #[.int .i64 g1, .int .i64 g2] 36 := by rw [hY]; exact (Blk.set hB2 0 (.int .i64 g1)).set 1 (.int .i64 g2)
      have hCy : Below X.heap.size X Y := by rw [hY]; exact set2_below hC2.2.2 hlz _ _
      refine ps (k := 12) rfl rfl hC2 rfl (wanted_none rfl) (w1 := Y) (by rw [hY]; exact storeR hB2 g1 g2 rfl ((FC3.eval 8 (by omega)).trans (show _ = Value.pointer (some ⟨V1.heap.size, 0, none⟩) from by simp [upd, hs1, hs5, hs6, hs7])) ((FC3.eval 21 (by omega)).trans (show _ = Value.agg #[.int .i64 g1, .int .i64 g2] from by simp [upd, hs1, hs5, hs6, hs7]))) ?_
      refine pdone (fun h => by cases h) ?_
      exact hrest _ _ Y V1.heap.size FC3 (show _ = Value.pointer (some ⟨lb, 0, none⟩) from by simp [upd, hs1, hs5, hs6, hs7]) (show _ = Value.pointer (some ⟨b6, 0, none⟩) from by simp [upd, hs1, hs5, hs6, hs7]) (show _ = Value.pointer (some ⟨V1.heap.size, 0, none⟩) from by simp [upd, hs1, hs5, hs6, hs7]) hBy hCy hlz
  · refine pe' (k := 11) rfl F8 rfl rfl (by omega) (wanted_none rfl) (v := Value.pointer (some ⟨({ X with drawn := X.drawn + 1 } : World).heap.size, 0, none⟩)) (w1 := ({ X with drawn := X.drawn + 1 } : World).alloc (.cells #[.int .i64 0, .int .i64 0] 36)) (by simp only [execOp]; simp [go_sem, zero36]) fun aD1 FD1 => ?_
    have hBz : Blk (({ X with drawn := X.drawn + 1 } : World).alloc (.cells #[.int .i64 0, .int .i64 0] 36)) ({ X with drawn := X.drawn + 1 } : World).heap.size #[.int .i64 0, .int .i64 0] 36 := heap_alloc_new ({ X with drawn := X.drawn + 1 } : World) _
    have hbz : Below ({ X with drawn := X.drawn + 1 } : World).heap.size ({ X with drawn := X.drawn + 1 } : World) (({ X with drawn := X.drawn + 1 } : World).alloc (.cells #[.int .i64 0, .int .i64 0] 36)) := (Below.refl _ _).alloc (Nat.le_refl _) _
    have hCz : (fun wq => Blk wq b7 #[.int .i64 s.d, .int .i64 s.u] 36 ∧ Blk wq b5 #[.int .i64 wd, .int .i64 wu] 36 ∧ Below X.heap.size X wq) (({ X with drawn := X.drawn + 1 } : World).alloc (.cells #[.int .i64 0, .int .i64 0] 36)) := ⟨hC0.1.below hbz hC0.1.lt, hC0.2.1.below hbz hC0.2.1.lt, hC0.2.2.trans (hbz.mono hC0.2.2.size)⟩
    have hlz : X.heap.size ≤ ({ X with drawn := X.drawn + 1 } : World).heap.size := hC0.2.2.size
    refine pc (k := 4) rfl FD1 rfl hCz rfl (by omega) (wanted_none rfl) (g := 48) (args := #[.int .i64 s.d, .int .i64 wd]) (by simp only [execOp, resolve, invoke, List.map_toArray, List.map_cons, List.map_nil, (FD1.eval 12 (by omega)).trans (show _ = Value.int .i64 s.d from by simp [upd, hs1, hs5, hs6, hs7]), (FD1.eval 14 (by omega)).trans (show _ = Value.int .i64 wd from by simp [upd, hs1, hs5, hs6, hs7])]; simp [go_sem, Act.eval]) (HG1.out (({ X with drawn := X.drawn + 1 } : World).alloc (.cells #[.int .i64 0, .int .i64 0] 36))) ?_
    rintro e9 V1 ⟨rfl, hv1⟩
    refine ⟨_, rfl, fun aD2 FD2 => ?_⟩
    have hC1 : (fun wq => Blk wq b7 #[.int .i64 s.d, .int .i64 s.u] 36 ∧ Blk wq b5 #[.int .i64 wd, .int .i64 wu] 36 ∧ Below X.heap.size X wq) V1 := by rw [hv1]; exact hCz
    have hB1 : Blk V1 ({ X with drawn := X.drawn + 1 } : World).heap.size #[.int .i64 0, .int .i64 0] 36 := by rw [hv1]; exact hBz
    refine pc (k := 9) rfl FD2 rfl hC1 rfl (by omega) (wanted_none rfl) (g := 48) (args := #[.int .i64 s.u, .int .i64 wu]) (by simp only [execOp, resolve, invoke, List.map_toArray, List.map_cons, List.map_nil, (FD2.eval 17 (by omega)).trans (show _ = Value.int .i64 s.u from by simp [upd, hs1, hs5, hs6, hs7]), (FD2.eval 19 (by omega)).trans (show _ = Value.int .i64 wu from by simp [upd, hs1, hs5, hs6, hs7])]; simp [go_sem, Act.eval]) (HG2.out V1) ?_
    rintro e9 V2 ⟨rfl, hv2⟩
    refine ⟨_, rfl, fun aD3 FD3 => ?_⟩
    have hC2 : (fun wq => Blk wq b7 #[.int .i64 s.d, .int .i64 s.u] 36 ∧ Blk wq b5 #[.int .i64 wd, .int .i64 wu] 36 ∧ Below X.heap.size X wq) V2 := by rw [hv2]; exact hC1
    have hB2 : Blk V2 ({ X with drawn := X.drawn + 1 } : World).heap.size #[.int .i64 0, .int .i64 0] 36 := by rw [hv2]; exact hB1
    refine py (k := 10) rfl FD3 rfl hC2 rfl (by omega) (wanted_none rfl) (v := Value.agg #[.int .i64 g1, .int .i64 g2]) (fun wr hwr => by simp only [execOp, List.map_toArray, List.map_cons, List.map_nil, (FD3.eval 15 (by omega)).trans (show _ = Value.int .i64 g1 from by simp [upd, hs1, hs5, hs6, hs7]), (FD3.eval 20 (by omega)).trans (show _ = Value.int .i64 g2 from by simp [upd, hs1, hs5, hs6, hs7])]; simp [go_sem]; try rfl) fun aD4 FD4 => ?_
    obtain ⟨Y, hY⟩ : ∃ Y, Y = ((World.setCell V2 ⟨({ X with drawn := X.drawn + 1 } : World).heap.size, 0, none⟩ (.int .i64 g1)).setCell ⟨({ X with drawn := X.drawn + 1 } : World).heap.size, 1, none⟩ (.int .i64 g2)) := ⟨_, rfl⟩
    have hBy : Blk Y ({ X with drawn := X.drawn + 1 } : World).heap.size #[.int .i64 g1, .int .i64 g2] 36 := by rw [hY]; exact (Blk.set hB2 0 (.int .i64 g1)).set 1 (.int .i64 g2)
    have hCy : Below X.heap.size X Y := by rw [hY]; exact set2_below hC2.2.2 hlz _ _
    refine ps (k := 12) rfl rfl hC2 rfl (wanted_none rfl) (w1 := Y) (by rw [hY]; exact storeR hB2 g1 g2 rfl ((FD4.eval 8 (by omega)).trans (show _ = Value.pointer (some ⟨({ X with drawn := X.drawn + 1 } : World).heap.size, 0, none⟩) from by simp [upd, hs1, hs5, hs6, hs7])) ((FD4.eval 21 (by omega)).trans (show _ = Value.agg #[.int .i64 g1, .int .i64 g2] from by simp [upd, hs1, hs5, hs6, hs7]))) ?_
    refine pdone (fun h => by cases h) ?_
    exact hrest _ _ Y ({ X with drawn := X.drawn + 1 } : World).heap.size FD4 (show _ = Value.pointer (some ⟨lb, 0, none⟩) from by simp [upd, hs1, hs5, hs6, hs7]) (show _ = Value.pointer (some ⟨b6, 0, none⟩) from by simp [upd, hs1, hs5, hs6, hs7]) (show _ = Value.pointer (some ⟨({ X with drawn := X.drawn + 1 } : World).heap.size, 0, none⟩) from by simp [upd, hs1, hs5, hs6, hs7]) hBy hCy hlz
end Go.Proofs.YtjmbhaoehfdpoaaDoor
namespace Go.Proofs.YtjmbhaoehfdpoaaDoor
open Go.RowKit Go.PlainAid Go.MapKept
set_option linter.unusedVariables false
set_option linter.unusedSimpArgs false
theorem ask_range (me : Int) (zs : List Int) {N : Nat} (h : zs.length = N) : (askTo me zs N).1 = -1 ∨ 0 ≤ (askTo me zs N).1 := by
  subst h
  rcases ask_found me zs with ⟨h1, _⟩ | ⟨p, _, h1, _⟩
  · exact Or.inl h1
  · exact Or.inr (by omega)
/-- Does a Tick take the name away? -/
def tickCl (me : Int) (rs : List Rg) (N : Nat) (wd wu : Int) : Prop := (wd = 0 ∧ wu = 0) ∨ whomI me rs N wd wu ≠ -1
instance (me : Int) (rs : List Rg) (N : Nat) (wd wu : Int) : Decidable (tickCl me rs N wd wu) := by unfold tickCl; infer_instance
/-- What a Tick tells. -/
def tickA (me : Int) (rs : List Rg) (N : Nat) (wd wu : Int) : Int × Int × Int × Bool := if wd = 0 ∧ wu = 0 then (0, 0, 0, false) else if whomI me rs N wd wu = -1 then (0, 0, 0, false) else (whomI me rs N wd wu, wd, wu, true)
theorem tickR_fst (me : Int) (k : List UInt8) (L : GL) (rs : List Rg) (N : Nat) (wd wu : Int) : (tickR me k L rs N wd wu).1 = tickA me rs N wd wu := by
  unfold tickR tickA
  split
  · rfl
  · split <;> rfl
theorem tickR_snd (me : Int) (k : List UInt8) (L : GL) (rs : List Rg) (N : Nat) (wd wu : Int) : (tickR me k L rs N wd wu).2 = if tickCl me rs N wd wu then Gm.rmK k L else L := by
  unfold tickR
  by_cases h1 : wd = 0 ∧ wu = 0
  · rw [if_pos h1, if_pos (show tickCl me rs N wd wu from Or.inl h1)]
  · rw [if_neg h1]
    by_cases h2 : whomI me rs N wd wu = -1
    · rw [if_pos h2, if_neg (show ¬ tickCl me rs N wd wu from fun h => h.elim h1 (fun h => h h2))]
    · rw [if_neg h2, if_pos (show tickCl me rs N wd wu from Or.inr h2)]
def rtickN (me : Int) (n : List UInt8) (A : List RE) (rs : List Rg) (N : Nat) (wd wu : Int) : List RE := if tickCl me rs N wd wu then clr n A else A
theorem rtick_len (me : Int) (n : List UInt8) (A : List RE) (rs : List Rg) (N : Nat) (wd wu : Int) : (rtickN me n A rs N wd wu).length = A.length := by
  unfold rtickN
  split
  · exact clr_len n A
  · rfl
/-- Whom the document asks: it tests for below 0, where the program tests for -1. -/
theorem whom_nn (me : Int) (rs : List Rg) (N : Nat) (wd wu : Int) (h : rs.length = N) : whomI me rs N wd wu = -1 ∨ 0 ≤ whomI me rs N wd wu := by
  have h1 : askD me rs N = -1 ∨ 0 ≤ askD me rs N := ask_range me _ (by simpa using h)
  have h2 : askU me rs N = -1 ∨ 0 ≤ askU me rs N := ask_range me _ (by simpa using h)
  have h3 : (if 0 < wd then askD me rs N else -1) = -1 ∨ 0 ≤ (if 0 < wd then askD me rs N else -1) := by
    by_cases hd : 0 < wd
    · rw [if_pos hd]; exact h1
    · rw [if_neg hd]; exact Or.inl rfl
  unfold whomI
  generalize (if 0 < wd then askD me rs N else -1) = z at *
  by_cases hc : z = -1 ∧ 0 < wu
  · rw [if_pos hc]; exact h2
  · rw [if_neg hc]; exact h3
end Go.Proofs.YtjmbhaoehfdpoaaDoor
