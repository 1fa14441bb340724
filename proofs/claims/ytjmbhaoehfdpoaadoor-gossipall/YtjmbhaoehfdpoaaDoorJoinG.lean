import Derived.Test.YtjmbhaoehfdpoaaDoorTk1
import Derived.Test.YtjmbhaoehfdpoaaDoorJoinC
namespace Go.Proofs.YtjmbhaoehfdpoaaDoor
open Go.RowKit Go.PlainAid Go.MapKept
set_option linter.unusedVariables false
set_option linter.unusedSimpArgs false
set_option maxRecDepth 100000 in
set_option maxHeartbeats 3200000 in
theorem played_2 {L0 M : Nat} {i : PIx} {x : PVl} (kd wh a : Int) (n : List UInt8) (d u : Int) (w : World) (h : PI L0 M i x w) (hM : M ≤ 300) (hc : newCode i.me i.N = 0) (hk : kd = 2) :
    Calls Tryd.prog 18 #[.pointer (some ⟨i.pb, 0, none⟩), .agg #[.int .i64 kd, .int .i64 wh, .int .i64 a, .string ⟨n.toArray⟩, .int .i64 d, .int .i64 u]] w fun e w' => e = .returned (.bool true) ∧ ∃ x', PI L0 (M + 1) i x' w' ∧ PNew i x.gv x.vv x'.gv x'.vv w w' := by
  obtain ⟨ob, hob⟩ : ∃ ob, ob = w.heap.size := ⟨_, rfl⟩
  obtain ⟨X, hX⟩ : ∃ X, X = w.alloc (.cells #[.int .i64 kd, .int .i64 wh, .int .i64 a, .string ⟨n.toArray⟩, .int .i64 d, .int .i64 u] 38) := ⟨_, rfl⟩
  have hbX : Below w.heap.size w X := by rw [hX]; exact (Below.refl _ _).alloc (Nat.le_refl _) _
  have HBX : Hid (Below w.heap.size w X) := hbX
  have HBO : Hid (Blk X ob #[.int .i64 kd, .int .i64 wh, .int .i64 a, .string ⟨n.toArray⟩, .int .i64 d, .int .i64 u] 38) := show Blk X ob #[.int .i64 kd, .int .i64 wh, .int .i64 a, .string ⟨n.toArray⟩, .int .i64 d, .int .i64 u] 38 from by rw [hX, hob]; exact heap_alloc_new w _
  have HS0 : Hid (PS L0 i x.gv x.vv w x.ver x.L x.A x.gv x.s x.s x.VL x.VA x.vv X) := h.ps.more hbX
  have x0 : X.cell? ⟨ob, 0, none⟩ = some (.int .i64 kd) := HBO.out.cell 0
  have HTE : Hid _ := ticks_any n X (h.more hbX) hM hc
  have x3 : X.cell? ⟨ob, 3, none⟩ = some (.string ⟨n.toArray⟩) := HBO.out.cell 3
  subst hk
  clear h hbX hM hc
  go_enter Tryd.func18, Tryd.ntmps18
  go_upto_region 1 with fail
  rw [← hX, ← hob]
  clear hX hob
  go_wp2_with fail
  refine Calls.mono HTE.out ?_
  rintro e9 w2 ⟨rfl, x', hP, hN⟩
  have HP : Hid (_ ∧ _) := And.intro hP.mono (hN.from HBX.out)
  clear hP hN HTE x0 x3
  go_wp2_with fail
  go_ret
  exact ⟨rfl, x', HP.out.1, HP.out.2⟩
set_option maxRecDepth 100000 in
set_option maxHeartbeats 6400000 in
theorem played_3 {S : Led.Sens} {Ls L0 M : Nat} {i : PIx} {x : PVl} (kd wh a : Int) (n : List UInt8) (d u : Int) (w : World) (h : PI L0 M i x w) (hS : Led.Sen S Ls w) (hL : Ls ≤ L0) (hk : kd = 3) :
    Calls Tryd.prog 18 #[.pointer (some ⟨i.pb, 0, none⟩), .agg #[.int .i64 kd, .int .i64 wh, .int .i64 a, .string ⟨n.toArray⟩, .int .i64 d, .int .i64 u]] w fun e w' => e = .returned (.bool true) ∧ ∃ x', PI L0 (M + 1) i x' w' ∧ PNew i x.gv x.vv x'.gv x'.vv w w' := by
  obtain ⟨ob, hob⟩ : ∃ ob, ob = w.heap.size := ⟨_, rfl⟩
  obtain ⟨X, hX⟩ : ∃ X, X = w.alloc (.cells #[.int .i64 kd, .int .i64 wh, .int .i64 a, .string ⟨n.toArray⟩, .int .i64 d, .int .i64 u] 38) := ⟨_, rfl⟩
  have hbX : Below w.heap.size w X := by rw [hX]; exact (Below.refl _ _).alloc (Nat.le_refl _) _
  have HBX : Hid (Below w.heap.size w X) := hbX
  have HBO : Hid (Blk X ob #[.int .i64 kd, .int .i64 wh, .int .i64 a, .string ⟨n.toArray⟩, .int .i64 d, .int .i64 u] 38) := show Blk X ob #[.int .i64 kd, .int .i64 wh, .int .i64 a, .string ⟨n.toArray⟩, .int .i64 d, .int .i64 u] 38 from by rw [hX, hob]; exact heap_alloc_new w _
  have HS0 : Hid (PS L0 i x.gv x.vv w x.ver x.L x.A x.gv x.s x.s x.VL x.VA x.vv X) := h.ps.more hbX
  have x0 : X.cell? ⟨ob, 0, none⟩ = some (.int .i64 kd) := HBO.out.cell 0
  obtain ⟨o1, o2, o3, o4, o5, o6⟩ := h.ok
  have w1 : IntKind.i64.wrap x.s.d = x.s.d := by rw [IntKind.wrap_i64]; omega
  have w2 : IntKind.i64.wrap x.s.u = x.s.u := by rw [IntKind.wrap_i64]; omega
  obtain ⟨g1, hg1⟩ : ∃ g1, g1 = giveI x.s.d d := ⟨_, rfl⟩
  obtain ⟨g2, hg2⟩ : ∃ g2, g2 = giveI x.s.u u := ⟨_, rfl⟩
  obtain ⟨s1, hs1⟩ : ∃ s1, s1 = x.s.onext g1 g2 := ⟨_, rfl⟩
  have hLl : Ls ≤ i.lb := Nat.le_trans hL h.lo.2.2.2.1
  have hLw : Ls ≤ w.heap.size := Nat.le_trans hLl (Nat.le_of_lt h.ld.lt)
  have HGG : Hid (∀ W, PS L0 i x.gv x.vv w x.ver x.L x.A x.gv x.s x.s x.VL x.VA x.vv W → Calls Tryd.prog 31 #[.pointer (some ⟨i.gb, 0, none⟩), .pointer (some ⟨i.lb, 0, none⟩), .agg #[.int .i64 d, .int .i64 u]] W fun e w' => e = .returned (.agg #[.int .i64 g1, .int .i64 g2]) ∧ PS L0 i x.gv x.vv w x.ver x.L x.A x.gv s1 x.s x.VL x.VA x.vv w' ∧ ∀ b C T, T ≠ 63 → Blk W b C T → Blk w' b C T) := fun W hp => by
    have hSW : Led.Sen S Ls W := hS.below (h.below hp.chg |>.mono hL)
    refine (ggive_any (gb := i.gb) d u W hp.ld h.ok w1 w2 hSW hLl).mono ?_
    rintro e w' ⟨rfl, hb, hcc⟩
    rw [← hg1, ← hg2] at hb ⊢
    rw [← hs1] at hb
    exact ⟨rfl, hp.setLd hb hcc, fun b C T hT hB => hcc.blk hB (Blk.ne_t hB hp.ld hT)⟩
  have HRG : Hid (∀ W, PS L0 i x.gv x.vv w x.ver x.L x.A x.gv s1 x.s x.VL x.VA x.vv W → Calls Tryd.prog 32 #[.pointer (some ⟨i.qb, 0, none⟩), .pointer (some ⟨i.kb, 0, none⟩), .agg #[.int .i64 d, .int .i64 u]] W fun e w' => e = .returned (.agg #[.int .i64 g1, .int .i64 g2]) ∧ PS L0 i x.gv x.vv w x.ver x.L x.A x.gv s1 s1 x.VL x.VA x.vv w' ∧ ∀ b C T, T ≠ 94 → Blk W b C T → Blk w' b C T) := fun W hp => by
    refine (rggive_any (gb := i.qb) d u W hp.rl h.ok w1 w2).mono ?_
    rintro e w' ⟨rfl, hb, hcc⟩
    rw [← hg1, ← hg2] at hb ⊢
    rw [← hs1] at hb
    exact ⟨rfl, hp.setRl hb hcc, fun b C T hT hB => hcc.blk hB (Blk.ne_t hB hp.rl hT)⟩
  have HRL : Hid (∀ W, PS L0 i x.gv x.vv w x.ver x.L x.A x.gv s1 s1 x.VL x.VA x.vv W → Calls Tryd.prog 21 #[.pointer (some ⟨i.lb, 0, none⟩)] W fun r w' => r = .returned (.agg #[.int .i64 s1.d, .int .i64 s1.u]) ∧ Below W.heap.size W w') := fun W hp => Led.rights_any W hp.ld
  have HRK : Hid (∀ W, PS L0 i x.gv x.vv w x.ver x.L x.A x.gv s1 s1 x.VL x.VA x.vv W → Calls Tryd.prog 33 #[.pointer (some ⟨i.kb, 0, none⟩)] W fun r w' => r = .returned (.agg #[.int .i64 s1.d, .int .i64 s1.u]) ∧ Below W.heap.size W w') := fun W hp => Led.rrights_any W hp.rl
  have HSM : Hid (∀ a b W, Calls Tryd.prog 15 #[.agg #[.int .i64 a, .int .i64 b], .agg #[.int .i64 a, .int .i64 b]] W fun r w' => r = .returned (.bool true) ∧ Below W.heap.size W w') := fun a b W => by
    have := Led.same_any a b a b W
    simpa using this
  have HFIN : Hid (∀ w', PS L0 i x.gv x.vv w x.ver x.L x.A x.gv s1 s1 x.VL x.VA x.vv w' → PI L0 (M + 1) i ⟨x.ver, x.L, x.A, x.gv, s1, x.VL, x.VA, x.vv⟩ w') := fun w' q => ⟨by have := q.box; unfold pbox at this; exact this, q.gs, q.rg, q.ld, q.rl, by rw [hs1]; exact Led.LS.onext_ok _ h.ok g1 g2, q.vw, q.rv, h.ag.mono (Nat.le_succ _), by show x.VA.length ≤ 128 * (M + 1); have := h.al; omega, Nat.le_succ_of_le h.ver, h.kd, h.lo', h.lg, Nat.le_succ_of_le h.gl, h.ne, h.lo⟩
  subst hk
  clear h hbX hS hL hLl hLw o1 o2 o3 o4 o5 o6 w1 w2 hg1 hg2 hs1
  go_enter Tryd.func18, Tryd.ntmps18
  go_upto_region 1 with fail
  rw [← hX, ← hob]
  clear hX hob
  go_wp2_with fail
  rename_i K hK
  try rw [show ∀ a : Act, a.put none undef = a from fun _ => rfl]
  have hrest : ∀ (a_ : Act) (f' : Nat → Value) (Y1 : World) (bx : Nat), Fr 133 a_ f' → f' 0 = Value.pointer (some ⟨i.pb, 0, none⟩) → f' 3 = Value.pointer (some ⟨ob, 0, none⟩) → f' 5 = Value.pointer (some ⟨bx, 0, none⟩) → Blk Y1 bx #[.int .i64 g1, .int .i64 g2] 36 → PS L0 i x.gv x.vv w x.ver x.L x.A x.gv s1 x.s x.VL x.VA x.vv Y1 → Blk Y1 ob #[.int .i64 3, .int .i64 wh, .int .i64 a, .string ⟨n.toArray⟩, .int .i64 d, .int .i64 u] 38 → K a_ Y1 := by
    intro a_ f' Y1 bx F' k0 k3 k5 hBx hPx hOx
    refine hK _ _ ?_
    rw [F'.lit, show ((List.range 133).map f').toArray = #[f' 0, f' 1, f' 2, f' 3, f' 4, f' 5, f' 6, f' 7, f' 8, f' 9, f' 10, f' 11, f' 12, f' 13, f' 14, f' 15, f' 16, f' 17, f' 18, f' 19, f' 20, f' 21, f' 22, f' 23, f' 24, f' 25, f' 26, f' 27, f' 28, f' 29, f' 30, f' 31, f' 32, f' 33, f' 34, f' 35, f' 36, f' 37, f' 38, f' 39, f' 40, f' 41, f' 42, f' 43, f' 44, f' 45, f' 46, f' 47, f' 48, f' 49, f' 50, f' 51, f' 52, f' 53, f' 54, f' 55, f' 56, f' 57, f' 58, f' 59, f' 60, f' 61, f' 62, f' 63, f' 64, f' 65, f' 66, f' 67, f' 68, f' 69, f' 70, f' 71, f' 72, f' 73, f' 74, f' 75, f' 76, f' 77, f' 78, f' 79, f' 80, f' 81, f' 82, f' 83, f' 84, f' 85, f' 86, f' 87, f' 88, f' 89, f' 90, f' 91, f' 92, f' 93, f' 94, f' 95, f' 96, f' 97, f' 98, f' 99, f' 100, f' 101, f' 102, f' 103, f' 104, f' 105, f' 106, f' 107, f' 108, f' 109, f' 110, f' 111, f' 112, f' 113, f' 114, f' 115, f' 116, f' 117, f' 118, f' 119, f' 120, f' 121, f' 122, f' 123, f' 124, f' 125, f' 126, f' 127, f' 128, f' 129, f' 130, f' 131, f' 132] from rfl, k0, k3, k5]
    have HBY : Hid (Blk Y1 bx #[.int .i64 g1, .int .i64 g2] 36) := hBx
    have HPY : Hid (PS L0 i x.gv x.vv w x.ver x.L x.A x.gv s1 x.s x.VL x.VA x.vv Y1) := hPx
    have HOY : Hid (Blk Y1 ob #[.int .i64 3, .int .i64 wh, .int .i64 a, .string ⟨n.toArray⟩, .int .i64 d, .int .i64 u] 38) := hOx
    clear hK F' k0 k3 k5 hBx hPx hOx
    go_wp2_with fail
    skip
    try rw [show ∀ a : Act, a.put none undef = a from fun _ => rfl]
    refine wp_region_mix (fun wq => Blk wq i.pb (pbox i x.ver) 55 ∧ Blk wq ob #[.int .i64 3, .int .i64 wh, .int .i64 a, .string ⟨n.toArray⟩, .int .i64 d, .int .i64 u] 38 ∧ Blk wq bx #[.int .i64 g1, .int .i64 g2] 36) (fun i => i == 11 || i == 12 || i == 18 || i == 23 || i == 24 || i == 99) 99 (by kernel_rfl) rfl (by kernel_rfl) (by kernel_rfl) (by kernel_rfl) ?_
    refine withFrP (N := 133) rfl ?_
    intro f0 F0 hff
    have ee0 : f0 0 = Value.pointer (some ⟨i.pb, 0, none⟩) := hff 0
    have ee3 : f0 3 = Value.pointer (some ⟨ob, 0, none⟩) := hff 3
    have ee5 : f0 5 = Value.pointer (some ⟨bx, 0, none⟩) := hff 5
    clear hff
    have hPD := PS.more HPY.out (show Below Y1.heap.size Y1 (({ Y1 with drawn := Y1.drawn + 1 } : World)) from Below.drew (Below.refl _ _))
    have HCC : (fun wq => Blk wq i.pb (pbox i x.ver) 55 ∧ Blk wq ob #[.int .i64 3, .int .i64 wh, .int .i64 a, .string ⟨n.toArray⟩, .int .i64 d, .int .i64 u] 38 ∧ Blk wq bx #[.int .i64 g1, .int .i64 g2] 36) (({ Y1 with drawn := Y1.drawn + 1 } : World)) := ⟨HPY.out.box, HOY.out, HBY.out⟩
    refine lyp F0 rfl HCC rfl (by omega) (wanted_none rfl) (v := Value.agg #[.int .i64 g1, .int .i64 g2]) (fun wr hwr => by simp only [execOp, (F0.eval 5 (by omega)).trans (show _ = Value.pointer (some ⟨bx, 0, none⟩) from by simp [upd, ee0, ee3, ee5])]; simp [go_sem, show wr.cell? ⟨bx, 0, none⟩ = some (.int .i64 g1) from hwr.2.2.cell 0, show wr.cell? ⟨bx, 1, none⟩ = some (.int .i64 g2) from hwr.2.2.cell 1]) fun F1 => ?_
    refine lyp F1 rfl HCC rfl (by omega) (wanted_none rfl) (v := Value.pointer (some ⟨i.pb, 0, none⟩)) (fun wr hwr => by simp only [execOp, (F1.eval 0 (by omega)).trans (show _ = Value.pointer (some ⟨i.pb, 0, none⟩) from by simp [upd, ee0, ee3, ee5])]; first | rfl | simp [go_sem]) fun F2 => ?_
    refine lyp F2 rfl HCC rfl (by omega) (wanted_none rfl) (v := Value.pointer (some ⟨i.pb, 0, none⟩)) (fun wr hwr => by simp only [execOp, (F2.eval 50 (by omega)).trans (show _ = Value.pointer (some ⟨i.pb, 0, none⟩) from by simp [upd, ee0, ee3, ee5])]; simp [go_sem]) fun F3 => ?_
    refine lyp F3 rfl HCC rfl (by omega) (wanted_none rfl) (v := Value.pointer (some ⟨i.pb, 6, none⟩)) (fun wr hwr => by simp only [execOp, (F3.eval 51 (by omega)).trans (show _ = Value.pointer (some ⟨i.pb, 0, none⟩) from by simp [upd, ee0, ee3, ee5])]; simp [go_sem]) fun F4 => ?_
    refine lyp F4 rfl HCC rfl (by omega) (wanted_none rfl) (v := Value.pointer (some ⟨i.qb, 0, none⟩)) (fun wr hwr => by simp only [execOp, (F4.eval 52 (by omega)).trans (show _ = Value.pointer (some ⟨i.pb, 6, none⟩) from by simp [upd, ee0, ee3, ee5])]; simp [go_sem, show wr.cell? ⟨i.pb, 6, none⟩ = some (.pointer (some ⟨i.qb, 0, none⟩)) from Blk.cell hwr.1 6]) fun F5 => ?_
    refine lyp F5 rfl HCC rfl (by omega) (wanted_none rfl) (v := Value.pointer (some ⟨i.pb, 0, none⟩)) (fun wr hwr => by simp only [execOp, (F5.eval 0 (by omega)).trans (show _ = Value.pointer (some ⟨i.pb, 0, none⟩) from by simp [upd, ee0, ee3, ee5])]; first | rfl | simp [go_sem]) fun F6 => ?_
    refine lyp F6 rfl HCC rfl (by omega) (wanted_none rfl) (v := Value.pointer (some ⟨i.pb, 0, none⟩)) (fun wr hwr => by simp only [execOp, (F6.eval 54 (by omega)).trans (show _ = Value.pointer (some ⟨i.pb, 0, none⟩) from by simp [upd, ee0, ee3, ee5])]; simp [go_sem]) fun F7 => ?_
    refine lyp F7 rfl HCC rfl (by omega) (wanted_none rfl) (v := Value.pointer (some ⟨i.pb, 7, none⟩)) (fun wr hwr => by simp only [execOp, (F7.eval 55 (by omega)).trans (show _ = Value.pointer (some ⟨i.pb, 0, none⟩) from by simp [upd, ee0, ee3, ee5])]; simp [go_sem]) fun F8 => ?_
    refine lyp F8 rfl HCC rfl (by omega) (wanted_none rfl) (v := Value.pointer (some ⟨i.kb, 0, none⟩)) (fun wr hwr => by simp only [execOp, (F8.eval 56 (by omega)).trans (show _ = Value.pointer (some ⟨i.pb, 7, none⟩) from by simp [upd, ee0, ee3, ee5])]; simp [go_sem, show wr.cell? ⟨i.pb, 7, none⟩ = some (.pointer (some ⟨i.kb, 0, none⟩)) from Blk.cell hwr.1 7]) fun F9 => ?_
    refine lyp F9 rfl HCC rfl (by omega) (wanted_none rfl) (v := Value.pointer (some ⟨ob, 4, none⟩)) (fun wr hwr => by simp only [execOp, (F9.eval 3 (by omega)).trans (show _ = Value.pointer (some ⟨ob, 0, none⟩) from by simp [upd, ee0, ee3, ee5])]; simp [go_sem]) fun F10 => ?_
    refine lyp F10 rfl HCC rfl (by omega) (wanted_none rfl) (v := Value.agg #[.int .i64 d, .int .i64 u]) (fun wr hwr => by simp only [execOp, (F10.eval 58 (by omega)).trans (show _ = Value.pointer (some ⟨ob, 4, none⟩) from by simp [upd, ee0, ee3, ee5])]; simp [go_sem, show wr.cell? ⟨ob, 4, none⟩ = some (.int .i64 d) from hwr.2.1.cell 4, show wr.cell? ⟨ob, 5, none⟩ = some (.int .i64 u) from hwr.2.1.cell 5]) fun F11 => ?_
    refine lcp F11 rfl HCC rfl (by omega) (wanted_none rfl) (g := 32) (args := #[Value.pointer (some ⟨i.qb, 0, none⟩), Value.pointer (some ⟨i.kb, 0, none⟩), Value.agg #[.int .i64 d, .int .i64 u]]) (by simp only [execOp, resolve, invoke, List.map_toArray, List.map_cons, List.map_nil, (F11.eval 53 (by omega)).trans (show _ = Value.pointer (some ⟨i.qb, 0, none⟩) from by simp [upd, ee0, ee3, ee5]), (F11.eval 57 (by omega)).trans (show _ = Value.pointer (some ⟨i.kb, 0, none⟩) from by simp [upd, ee0, ee3, ee5]), (F11.eval 59 (by omega)).trans (show _ = Value.agg #[.int .i64 d, .int .i64 u] from by simp [upd, ee0, ee3, ee5])]; simp [go_sem, Act.eval]) (HRG.out (({ Y1 with drawn := Y1.drawn + 1 } : World)) hPD) ?_
    rintro e9 u1 ⟨rfl, hP1, hT1⟩
    refine ⟨_, rfl, fun F12 => ?_⟩
    have HC1x : (fun wq => Blk wq i.pb (pbox i x.ver) 55 ∧ Blk wq ob #[.int .i64 3, .int .i64 wh, .int .i64 a, .string ⟨n.toArray⟩, .int .i64 d, .int .i64 u] 38 ∧ Blk wq bx #[.int .i64 g1, .int .i64 g2] 36) u1 := ⟨hP1.box, hT1 _ _ 38 (by decide) HCC.2.1, hT1 _ _ 36 (by decide) HCC.2.2⟩
    refine lcp F12 rfl HC1x rfl (by omega) (wanted_none rfl) (g := 15) (args := #[Value.agg #[.int .i64 g1, .int .i64 g2], Value.agg #[.int .i64 g1, .int .i64 g2]]) (by simp only [execOp, resolve, invoke, List.map_toArray, List.map_cons, List.map_nil, (F12.eval 49 (by omega)).trans (show _ = Value.agg #[.int .i64 g1, .int .i64 g2] from by simp [upd, ee0, ee3, ee5]), (F12.eval 60 (by omega)).trans (show _ = Value.agg #[.int .i64 g1, .int .i64 g2] from by simp [upd, ee0, ee3, ee5])]; simp [go_sem, Act.eval]) (HSM.out g1 g2 (u1)) ?_
    rintro e9 u2 ⟨rfl, hb2⟩
    have hP2 := PS.more hP1 hb2
    refine ⟨_, rfl, fun F13 => ?_⟩
    have HC2x : (fun wq => Blk wq i.pb (pbox i x.ver) 55 ∧ Blk wq ob #[.int .i64 3, .int .i64 wh, .int .i64 a, .string ⟨n.toArray⟩, .int .i64 d, .int .i64 u] 38 ∧ Blk wq bx #[.int .i64 g1, .int .i64 g2] 36) u2 := ⟨HC1x.1.below hb2 HC1x.1.lt, HC1x.2.1.below hb2 HC1x.2.1.lt, HC1x.2.2.below hb2 HC1x.2.2.lt⟩
    refine lyp F13 rfl HC2x rfl (by omega) (wanted_none rfl) (v := Value.bool true) (fun wr hwr => by simp only [execOp, (F13.eval 61 (by omega)).trans (show _ = Value.bool true from by simp [upd, ee0, ee3, ee5])]; first | rfl | simp [go_sem]) fun F14 => ?_
    refine lyp F14 rfl HC2x rfl (by omega) (want_yes F14 rfl (e := 62) rfl (by omega) (show _ = Value.bool true from by simp [upd, ee0, ee3, ee5])) (v := Value.pointer (some ⟨i.pb, 0, none⟩)) (fun wr hwr => by simp only [execOp, (F14.eval 0 (by omega)).trans (show _ = Value.pointer (some ⟨i.pb, 0, none⟩) from by simp [upd, ee0, ee3, ee5])]; first | rfl | simp [go_sem]) fun F15 => ?_
    refine lyp F15 rfl HC2x rfl (by omega) (want_yes F15 rfl (e := 62) rfl (by omega) (show _ = Value.bool true from by simp [upd, ee0, ee3, ee5])) (v := Value.pointer (some ⟨i.pb, 0, none⟩)) (fun wr hwr => by simp only [execOp, (F15.eval 63 (by omega)).trans (show _ = Value.pointer (some ⟨i.pb, 0, none⟩) from by simp [upd, ee0, ee3, ee5])]; simp [go_sem]) fun F16 => ?_
    refine lyp F16 rfl HC2x rfl (by omega) (want_yes F16 rfl (e := 62) rfl (by omega) (show _ = Value.bool true from by simp [upd, ee0, ee3, ee5])) (v := Value.pointer (some ⟨i.pb, 4, none⟩)) (fun wr hwr => by simp only [execOp, (F16.eval 64 (by omega)).trans (show _ = Value.pointer (some ⟨i.pb, 0, none⟩) from by simp [upd, ee0, ee3, ee5])]; simp [go_sem]) fun F17 => ?_
    refine lyp F17 rfl HC2x rfl (by omega) (want_yes F17 rfl (e := 62) rfl (by omega) (show _ = Value.bool true from by simp [upd, ee0, ee3, ee5])) (v := Value.pointer (some ⟨i.lb, 0, none⟩)) (fun wr hwr => by simp only [execOp, (F17.eval 65 (by omega)).trans (show _ = Value.pointer (some ⟨i.pb, 4, none⟩) from by simp [upd, ee0, ee3, ee5])]; simp [go_sem, show wr.cell? ⟨i.pb, 4, none⟩ = some (.pointer (some ⟨i.lb, 0, none⟩)) from Blk.cell hwr.1 4]) fun F18 => ?_
    refine lcp F18 rfl HC2x rfl (by omega) (want_yes F18 rfl (e := 62) rfl (by omega) (show _ = Value.bool true from by simp [upd, ee0, ee3, ee5])) (g := 21) (args := #[Value.pointer (some ⟨i.lb, 0, none⟩)]) (by simp only [execOp, resolve, invoke, List.map_toArray, List.map_cons, List.map_nil, (F18.eval 66 (by omega)).trans (show _ = Value.pointer (some ⟨i.lb, 0, none⟩) from by simp [upd, ee0, ee3, ee5])]; simp [go_sem, Act.eval]) (HRL.out (u2) hP2) ?_
    rintro e9 u3 ⟨rfl, hb3⟩
    have hP3 := PS.more hP2 hb3
    refine ⟨_, rfl, fun F19 => ?_⟩
    have HC3x : (fun wq => Blk wq i.pb (pbox i x.ver) 55 ∧ Blk wq ob #[.int .i64 3, .int .i64 wh, .int .i64 a, .string ⟨n.toArray⟩, .int .i64 d, .int .i64 u] 38 ∧ Blk wq bx #[.int .i64 g1, .int .i64 g2] 36) u3 := ⟨HC2x.1.below hb3 HC2x.1.lt, HC2x.2.1.below hb3 HC2x.2.1.lt, HC2x.2.2.below hb3 HC2x.2.2.lt⟩
    refine lyp F19 rfl HC3x rfl (by omega) (want_yes F19 rfl (e := 62) rfl (by omega) (show _ = Value.bool true from by simp [upd, ee0, ee3, ee5])) (v := Value.pointer (some ⟨i.pb, 0, none⟩)) (fun wr hwr => by simp only [execOp, (F19.eval 0 (by omega)).trans (show _ = Value.pointer (some ⟨i.pb, 0, none⟩) from by simp [upd, ee0, ee3, ee5])]; first | rfl | simp [go_sem]) fun F20 => ?_
    refine lyp F20 rfl HC3x rfl (by omega) (want_yes F20 rfl (e := 62) rfl (by omega) (show _ = Value.bool true from by simp [upd, ee0, ee3, ee5])) (v := Value.pointer (some ⟨i.pb, 0, none⟩)) (fun wr hwr => by simp only [execOp, (F20.eval 68 (by omega)).trans (show _ = Value.pointer (some ⟨i.pb, 0, none⟩) from by simp [upd, ee0, ee3, ee5])]; simp [go_sem]) fun F21 => ?_
    refine lyp F21 rfl HC3x rfl (by omega) (want_yes F21 rfl (e := 62) rfl (by omega) (show _ = Value.bool true from by simp [upd, ee0, ee3, ee5])) (v := Value.pointer (some ⟨i.pb, 7, none⟩)) (fun wr hwr => by simp only [execOp, (F21.eval 69 (by omega)).trans (show _ = Value.pointer (some ⟨i.pb, 0, none⟩) from by simp [upd, ee0, ee3, ee5])]; simp [go_sem]) fun F22 => ?_
    refine lyp F22 rfl HC3x rfl (by omega) (want_yes F22 rfl (e := 62) rfl (by omega) (show _ = Value.bool true from by simp [upd, ee0, ee3, ee5])) (v := Value.pointer (some ⟨i.kb, 0, none⟩)) (fun wr hwr => by simp only [execOp, (F22.eval 70 (by omega)).trans (show _ = Value.pointer (some ⟨i.pb, 7, none⟩) from by simp [upd, ee0, ee3, ee5])]; simp [go_sem, show wr.cell? ⟨i.pb, 7, none⟩ = some (.pointer (some ⟨i.kb, 0, none⟩)) from Blk.cell hwr.1 7]) fun F23 => ?_
    refine lcp F23 rfl HC3x rfl (by omega) (want_yes F23 rfl (e := 62) rfl (by omega) (show _ = Value.bool true from by simp [upd, ee0, ee3, ee5])) (g := 33) (args := #[Value.pointer (some ⟨i.kb, 0, none⟩)]) (by simp only [execOp, resolve, invoke, List.map_toArray, List.map_cons, List.map_nil, (F23.eval 71 (by omega)).trans (show _ = Value.pointer (some ⟨i.kb, 0, none⟩) from by simp [upd, ee0, ee3, ee5])]; simp [go_sem, Act.eval]) (HRK.out (u3) hP3) ?_
    rintro e9 u4 ⟨rfl, hb4⟩
    have hP4 := PS.more hP3 hb4
    refine ⟨_, rfl, fun F24 => ?_⟩
    have HC4x : (fun wq => Blk wq i.pb (pbox i x.ver) 55 ∧ Blk wq ob #[.int .i64 3, .int .i64 wh, .int .i64 a, .string ⟨n.toArray⟩, .int .i64 d, .int .i64 u] 38 ∧ Blk wq bx #[.int .i64 g1, .int .i64 g2] 36) u4 := ⟨HC3x.1.below hb4 HC3x.1.lt, HC3x.2.1.below hb4 HC3x.2.1.lt, HC3x.2.2.below hb4 HC3x.2.2.lt⟩
    refine lcp F24 rfl HC4x rfl (by omega) (want_yes F24 rfl (e := 62) rfl (by omega) (show _ = Value.bool true from by simp [upd, ee0, ee3, ee5])) (g := 15) (args := #[Value.agg #[.int .i64 s1.d, .int .i64 s1.u], Value.agg #[.int .i64 s1.d, .int .i64 s1.u]]) (by simp only [execOp, resolve, invoke, List.map_toArray, List.map_cons, List.map_nil, (F24.eval 67 (by omega)).trans (show _ = Value.agg #[.int .i64 s1.d, .int .i64 s1.u] from by simp [upd, ee0, ee3, ee5]), (F24.eval 72 (by omega)).trans (show _ = Value.agg #[.int .i64 s1.d, .int .i64 s1.u] from by simp [upd, ee0, ee3, ee5])]; simp [go_sem, Act.eval]) (HSM.out s1.d s1.u (u4)) ?_
    rintro e9 u5 ⟨rfl, hb5⟩
    have hP5 := PS.more hP4 hb5
    refine ⟨_, rfl, fun F25 => ?_⟩
    have HC5x : (fun wq => Blk wq i.pb (pbox i x.ver) 55 ∧ Blk wq ob #[.int .i64 3, .int .i64 wh, .int .i64 a, .string ⟨n.toArray⟩, .int .i64 d, .int .i64 u] 38 ∧ Blk wq bx #[.int .i64 g1, .int .i64 g2] 36) u5 := ⟨HC4x.1.below hb5 HC4x.1.lt, HC4x.2.1.below hb5 HC4x.2.1.lt, HC4x.2.2.below hb5 HC4x.2.2.lt⟩
    refine lyp F25 rfl HC5x rfl (by omega) (wanted_none rfl) (v := Value.bool true) (fun wr hwr => by simp only [execOp, (F25.eval 62 (by omega)).trans (show _ = Value.bool true from by simp [upd, ee0, ee3, ee5]), (F25.eval 73 (by omega)).trans (show _ = Value.bool true from by simp [upd, ee0, ee3, ee5])]; simp [go_sem, Act.eval]) fun F26 => ?_
    refine lyp F26 rfl HC5x rfl (by omega) (wanted_none rfl) (v := Value.bool true) (fun wr hwr => by simp only [execOp, (F26.eval 74 (by omega)).trans (show _ = Value.bool true from by simp [upd, ee0, ee3, ee5])]; first | rfl | simp [go_sem]) fun F27 => ?_
    refine ⟨fun _ => HC5x, ?_⟩
    skip
    clear F0 F1 F2 F3 F4 F5 F6 F7 F8 F9 F10 F11 F12 F13 F14 F15 F16 F17 F18 F19 F20 F21 F22 F23 F24 F25 F26 F27 ee0 ee3 ee5 HCC hPD
    simp only [Act.put, List.setIfInBounds_toArray, List.set_cons_succ, List.set_cons_zero]
    have HPF : Hid (PS L0 i x.gv x.vv w x.ver x.L x.A x.gv s1 s1 x.VL x.VA x.vv u5) := hP5
    go_wp2_with fail
    go_ret
    exact ⟨rfl, _, HFIN.out _ HPF.out, HPF.out.new⟩
  refine wp_region_plan (fun wq => Blk wq i.pb (pbox i x.ver) 55 ∧ Blk wq ob #[.int .i64 3, .int .i64 wh, .int .i64 a, .string ⟨n.toArray⟩, .int .i64 d, .int .i64 u] 38) (fun i => i == 10 || i == 11 || i == 12) 12 (.one 0 (.one 1 (.one 2 (.one 3 (.one 4 (.one 5 (.one 6 (.one 7 (.one 8 (.one 9 (.two 10 11 (.one 11 (.one 12 (.done))) (.one 10 (.one 12 (.done)))))))))))))) (by kernel_rfl) rfl (by kernel_rfl) (by kernel_rfl) rfl (by kernel_rfl) ?_
  refine withFrG (N := 133) rfl ?_
  intro a0 f0 F0 hff
  have hs0 : f0 0 = Value.pointer (some ⟨i.pb, 0, none⟩) := hff 0
  have hs3 : f0 3 = Value.pointer (some ⟨ob, 0, none⟩) := hff 3
  clear hff
  have hC0 : (fun wq => Blk wq i.pb (pbox i x.ver) 55 ∧ Blk wq ob #[.int .i64 3, .int .i64 wh, .int .i64 a, .string ⟨n.toArray⟩, .int .i64 d, .int .i64 u] 38) ({ X with drawn := X.drawn + 1 } : World) := ⟨HS0.out.box, HBO.out⟩
  refine py (k := 0) rfl F0 rfl hC0 rfl (by omega) (wanted_none rfl) (v := Value.pointer (some ⟨i.pb, 0, none⟩)) (fun wr hwr => by simp only [execOp, (F0.eval 0 (by omega)).trans (show _ = Value.pointer (some ⟨i.pb, 0, none⟩) from by simp [upd, hs0, hs3])]; first | rfl | simp [go_sem]) fun a1 F1 => ?_
  refine py (k := 1) rfl F1 rfl hC0 rfl (by omega) (wanted_none rfl) (v := Value.pointer (some ⟨i.pb, 0, none⟩)) (fun wr hwr => by simp only [execOp, (F1.eval 38 (by omega)).trans (show _ = Value.pointer (some ⟨i.pb, 0, none⟩) from by simp [upd, hs0, hs3])]; simp [go_sem]) fun a2 F2 => ?_
  refine py (k := 2) rfl F2 rfl hC0 rfl (by omega) (wanted_none rfl) (v := Value.pointer (some ⟨i.pb, 3, none⟩)) (fun wr hwr => by simp only [execOp, (F2.eval 39 (by omega)).trans (show _ = Value.pointer (some ⟨i.pb, 0, none⟩) from by simp [upd, hs0, hs3])]; simp [go_sem]) fun a3 F3 => ?_
  refine py (k := 3) rfl F3 rfl hC0 rfl (by omega) (wanted_none rfl) (v := Value.pointer (some ⟨i.gb, 0, none⟩)) (fun wr hwr => by simp only [execOp, (F3.eval 40 (by omega)).trans (show _ = Value.pointer (some ⟨i.pb, 3, none⟩) from by simp [upd, hs0, hs3])]; simp [go_sem, show wr.cell? ⟨i.pb, 3, none⟩ = some (.pointer (some ⟨i.gb, 0, none⟩)) from hwr.1.cell 3]) fun a4 F4 => ?_
  refine py (k := 4) rfl F4 rfl hC0 rfl (by omega) (wanted_none rfl) (v := Value.pointer (some ⟨i.pb, 0, none⟩)) (fun wr hwr => by simp only [execOp, (F4.eval 0 (by omega)).trans (show _ = Value.pointer (some ⟨i.pb, 0, none⟩) from by simp [upd, hs0, hs3])]; first | rfl | simp [go_sem]) fun a5 F5 => ?_
  refine py (k := 5) rfl F5 rfl hC0 rfl (by omega) (wanted_none rfl) (v := Value.pointer (some ⟨i.pb, 0, none⟩)) (fun wr hwr => by simp only [execOp, (F5.eval 42 (by omega)).trans (show _ = Value.pointer (some ⟨i.pb, 0, none⟩) from by simp [upd, hs0, hs3])]; simp [go_sem]) fun a6 F6 => ?_
  refine py (k := 6) rfl F6 rfl hC0 rfl (by omega) (wanted_none rfl) (v := Value.pointer (some ⟨i.pb, 4, none⟩)) (fun wr hwr => by simp only [execOp, (F6.eval 43 (by omega)).trans (show _ = Value.pointer (some ⟨i.pb, 0, none⟩) from by simp [upd, hs0, hs3])]; simp [go_sem]) fun a7 F7 => ?_
  refine py (k := 7) rfl F7 rfl hC0 rfl (by omega) (wanted_none rfl) (v := Value.pointer (some ⟨i.lb, 0, none⟩)) (fun wr hwr => by simp only [execOp, (F7.eval 44 (by omega)).trans (show _ = Value.pointer (some ⟨i.pb, 4, none⟩) from by simp [upd, hs0, hs3])]; simp [go_sem, show wr.cell? ⟨i.pb, 4, none⟩ = some (.pointer (some ⟨i.lb, 0, none⟩)) from hwr.1.cell 4]) fun a8 F8 => ?_
  refine py (k := 8) rfl F8 rfl hC0 rfl (by omega) (wanted_none rfl) (v := Value.pointer (some ⟨ob, 4, none⟩)) (fun wr hwr => by simp only [execOp, (F8.eval 3 (by omega)).trans (show _ = Value.pointer (some ⟨ob, 0, none⟩) from by simp [upd, hs0, hs3])]; simp [go_sem]) fun a9 F9 => ?_
  refine py (k := 9) rfl F9 rfl hC0 rfl (by omega) (wanted_none rfl) (v := Value.agg #[.int .i64 d, .int .i64 u]) (fun wr hwr => by simp only [execOp, (F9.eval 46 (by omega)).trans (show _ = Value.pointer (some ⟨ob, 4, none⟩) from by simp [upd, hs0, hs3])]; simp [go_sem, show wr.cell? ⟨ob, 4, none⟩ = some (.int .i64 d) from hwr.2.cell 4, show wr.cell? ⟨ob, 5, none⟩ = some (.int .i64 u) from hwr.2.cell 5]) fun a10 F10 => ?_
  refine pfork hC0 ?_ ?_
  · refine pc' (k := 10) rfl F10 rfl rfl (by omega) (wanted_none rfl) (g := 31) (args := #[Value.pointer (some ⟨i.gb, 0, none⟩), Value.pointer (some ⟨i.lb, 0, none⟩), Value.agg #[.int .i64 d, .int .i64 u]]) (by simp only [execOp, resolve, invoke, List.map_toArray, List.map_cons, List.map_nil, (F10.eval 41 (by omega)).trans (show _ = Value.pointer (some ⟨i.gb, 0, none⟩) from by simp [upd, hs0, hs3]), (F10.eval 45 (by omega)).trans (show _ = Value.pointer (some ⟨i.lb, 0, none⟩) from by simp [upd, hs0, hs3]), (F10.eval 47 (by omega)).trans (show _ = Value.agg #[.int .i64 d, .int .i64 u] from by simp [upd, hs0, hs3])]; simp [go_sem, Act.eval]) (HGG.out ({ X with drawn := X.drawn + 1 } : World) (PS.more HS0.out (Below.drew (Below.refl X.heap.size X)))) ?_
    rintro e9 V1 ⟨rfl, hP1, hT1⟩
    refine ⟨_, rfl, fun aA1 FA1 => ?_⟩
    have hO1 := hT1 _ _ 38 (by decide) (show Blk ({ X with drawn := X.drawn + 1 } : World) ob #[.int .i64 3, .int .i64 wh, .int .i64 a, .string ⟨n.toArray⟩, .int .i64 d, .int .i64 u] 38 from HBO.out)
    refine pe (k := 11) rfl FA1 rfl ⟨hP1.box, hO1⟩ rfl (by omega) (wanted_none rfl) (v := Value.pointer (some ⟨V1.heap.size, 0, none⟩)) (w1 := V1.alloc (.cells #[.int .i64 0, .int .i64 0] 36)) (by simp only [execOp]; simp [go_sem, zero36]) fun aA2 FA2 => ?_
    have hBz : Blk (V1.alloc (.cells #[.int .i64 0, .int .i64 0] 36)) V1.heap.size #[.int .i64 0, .int .i64 0] 36 := heap_alloc_new V1 _
    have hbz : Below V1.heap.size V1 (V1.alloc (.cells #[.int .i64 0, .int .i64 0] 36)) := (Below.refl _ _).alloc (Nat.le_refl _) _
    have hPz := PS.more (hP1) hbz
    have hOz := Blk.below (show Blk V1 ob #[.int .i64 3, .int .i64 wh, .int .i64 a, .string ⟨n.toArray⟩, .int .i64 d, .int .i64 u] 38 from hO1) hbz (Blk.lt (show Blk V1 ob #[.int .i64 3, .int .i64 wh, .int .i64 a, .string ⟨n.toArray⟩, .int .i64 d, .int .i64 u] 38 from hO1))
    have hlz : w.heap.size ≤ V1.heap.size := (PS.chg (hP1)).size
    have hoz : ob < V1.heap.size := Blk.lt (show Blk V1 ob #[.int .i64 3, .int .i64 wh, .int .i64 a, .string ⟨n.toArray⟩, .int .i64 d, .int .i64 u] 38 from hO1)
    obtain ⟨Y, hY⟩ : ∃ Y, Y = ((World.setCell (V1.alloc (.cells #[.int .i64 0, .int .i64 0] 36)) ⟨V1.heap.size, 0, none⟩ (.int .i64 g1)).setCell ⟨V1.heap.size, 1, none⟩ (.int .i64 g2)) := ⟨_, rfl⟩
    have hBy : Blk Y V1.heap.size #[.int .i64 g1, .int .i64 g2] 36 := by rw [hY]; exact (Blk.set hBz 0 (.int .i64 g1)).set 1 (.int .i64 g2)
    have hc2 : Chg (fun k => k = V1.heap.size) (V1.alloc (.cells #[.int .i64 0, .int .i64 0] 36)) Y := by rw [hY]; exact (setCell_chg _ _ 0 _).trans (setCell_chg _ _ 1 _) (fun _ _ e => e)
    have hPY := PS.box36 (hPz) hBz hlz hc2
    have hOY : Blk Y ob #[.int .i64 3, .int .i64 wh, .int .i64 a, .string ⟨n.toArray⟩, .int .i64 d, .int .i64 u] 38 := hc2.blk hOz (Blk.ne_t hOz hBz (by decide))
    refine ps (k := 12) rfl rfl ⟨hPz.box, hOz⟩ rfl (wanted_none rfl) (w1 := Y) (by rw [hY]; exact storeR hBz g1 g2 rfl ((FA2.eval 5 (by omega)).trans (show _ = Value.pointer (some ⟨V1.heap.size, 0, none⟩) from by simp [upd, hs0, hs3])) ((FA2.eval 48 (by omega)).trans (show _ = Value.agg #[.int .i64 g1, .int .i64 g2] from by simp [upd, hs0, hs3]))) ?_
    refine pdone (fun h => by cases h) ?_
    exact hrest _ _ Y V1.heap.size FA2 (show _ = Value.pointer (some ⟨i.pb, 0, none⟩) from by simp [upd, hs0, hs3]) (show _ = Value.pointer (some ⟨ob, 0, none⟩) from by simp [upd, hs0, hs3]) (show _ = Value.pointer (some ⟨V1.heap.size, 0, none⟩) from by simp [upd, hs0, hs3]) hBy hPY hOY
  · refine pe' (k := 11) rfl F10 rfl rfl (by omega) (wanted_none rfl) (v := Value.pointer (some ⟨({ X with drawn := X.drawn + 1 } : World).heap.size, 0, none⟩)) (w1 := ({ X with drawn := X.drawn + 1 } : World).alloc (.cells #[.int .i64 0, .int .i64 0] 36)) (by simp only [execOp]; simp [go_sem, zero36]) fun aD1 FD1 => ?_
    have hBz : Blk (({ X with drawn := X.drawn + 1 } : World).alloc (.cells #[.int .i64 0, .int .i64 0] 36)) ({ X with drawn := X.drawn + 1 } : World).heap.size #[.int .i64 0, .int .i64 0] 36 := heap_alloc_new ({ X with drawn := X.drawn + 1 } : World) _
    have hbz : Below ({ X with drawn := X.drawn + 1 } : World).heap.size ({ X with drawn := X.drawn + 1 } : World) (({ X with drawn := X.drawn + 1 } : World).alloc (.cells #[.int .i64 0, .int .i64 0] 36)) := (Below.refl _ _).alloc (Nat.le_refl _) _
    have hPz := PS.more (PS.more HS0.out (Below.drew (Below.refl X.heap.size X))) hbz
    have hOz := Blk.below (show Blk ({ X with drawn := X.drawn + 1 } : World) ob #[.int .i64 3, .int .i64 wh, .int .i64 a, .string ⟨n.toArray⟩, .int .i64 d, .int .i64 u] 38 from HBO.out) hbz (Blk.lt (show Blk ({ X with drawn := X.drawn + 1 } : World) ob #[.int .i64 3, .int .i64 wh, .int .i64 a, .string ⟨n.toArray⟩, .int .i64 d, .int .i64 u] 38 from HBO.out))
    have hlz : w.heap.size ≤ ({ X with drawn := X.drawn + 1 } : World).heap.size := (PS.chg (PS.more HS0.out (Below.drew (Below.refl X.heap.size X)))).size
    have hoz : ob < ({ X with drawn := X.drawn + 1 } : World).heap.size := Blk.lt (show Blk ({ X with drawn := X.drawn + 1 } : World) ob #[.int .i64 3, .int .i64 wh, .int .i64 a, .string ⟨n.toArray⟩, .int .i64 d, .int .i64 u] 38 from HBO.out)
    refine pc (k := 10) rfl FD1 rfl ⟨hPz.box, hOz⟩ rfl (by omega) (wanted_none rfl) (g := 31) (args := #[Value.pointer (some ⟨i.gb, 0, none⟩), Value.pointer (some ⟨i.lb, 0, none⟩), Value.agg #[.int .i64 d, .int .i64 u]]) (by simp only [execOp, resolve, invoke, List.map_toArray, List.map_cons, List.map_nil, (FD1.eval 41 (by omega)).trans (show _ = Value.pointer (some ⟨i.gb, 0, none⟩) from by simp [upd, hs0, hs3]), (FD1.eval 45 (by omega)).trans (show _ = Value.pointer (some ⟨i.lb, 0, none⟩) from by simp [upd, hs0, hs3]), (FD1.eval 47 (by omega)).trans (show _ = Value.agg #[.int .i64 d, .int .i64 u] from by simp [upd, hs0, hs3])]; simp [go_sem, Act.eval]) (HGG.out (({ X with drawn := X.drawn + 1 } : World).alloc (.cells #[.int .i64 0, .int .i64 0] 36)) (hPz)) ?_
    rintro e9 V1 ⟨rfl, hP1, hT1⟩
    refine ⟨_, rfl, fun aD2 FD2 => ?_⟩
    have hO1 := hT1 _ _ 38 (by decide) (hOz)
    have hBa := hT1 _ _ 36 (by decide) hBz
    obtain ⟨Y, hY⟩ : ∃ Y, Y = ((World.setCell V1 ⟨({ X with drawn := X.drawn + 1 } : World).heap.size, 0, none⟩ (.int .i64 g1)).setCell ⟨({ X with drawn := X.drawn + 1 } : World).heap.size, 1, none⟩ (.int .i64 g2)) := ⟨_, rfl⟩
    have hBy : Blk Y ({ X with drawn := X.drawn + 1 } : World).heap.size #[.int .i64 g1, .int .i64 g2] 36 := by rw [hY]; exact (Blk.set hBa 0 (.int .i64 g1)).set 1 (.int .i64 g2)
    have hc2 : Chg (fun k => k = ({ X with drawn := X.drawn + 1 } : World).heap.size) V1 Y := by rw [hY]; exact (setCell_chg _ _ 0 _).trans (setCell_chg _ _ 1 _) (fun _ _ e => e)
    have hPY := PS.box36 (hP1) hBa hlz hc2
    have hOY : Blk Y ob #[.int .i64 3, .int .i64 wh, .int .i64 a, .string ⟨n.toArray⟩, .int .i64 d, .int .i64 u] 38 := hc2.blk hO1 (Blk.ne_t hO1 hBa (by decide))
    refine ps (k := 12) rfl rfl ⟨hP1.box, hO1⟩ rfl (wanted_none rfl) (w1 := Y) (by rw [hY]; exact storeR hBa g1 g2 rfl ((FD2.eval 5 (by omega)).trans (show _ = Value.pointer (some ⟨({ X with drawn := X.drawn + 1 } : World).heap.size, 0, none⟩) from by simp [upd, hs0, hs3])) ((FD2.eval 48 (by omega)).trans (show _ = Value.agg #[.int .i64 g1, .int .i64 g2] from by simp [upd, hs0, hs3]))) ?_
    refine pdone (fun h => by cases h) ?_
    exact hrest _ _ Y ({ X with drawn := X.drawn + 1 } : World).heap.size FD2 (show _ = Value.pointer (some ⟨i.pb, 0, none⟩) from by simp [upd, hs0, hs3]) (show _ = Value.pointer (some ⟨ob, 0, none⟩) from by simp [upd, hs0, hs3]) (show _ = Value.pointer (some ⟨({ X with drawn := X.drawn + 1 } : World).heap.size, 0, none⟩) from by simp [upd, hs0, hs3]) hBy hPY hOY
end Go.Proofs.YtjmbhaoehfdpoaaDoor
namespace Go.Proofs.YtjmbhaoehfdpoaaDoor
open Go.RowKit Go.PlainAid Go.MapKept
set_option linter.unusedVariables false
set_option linter.unusedSimpArgs false
theorem wrap_in {d : Int} (h : -9223372036854775808 ≤ d ∧ d ≤ 9223372036854775807) : IntKind.i64.wrap d = d := by rw [IntKind.wrap_i64]; omega
/-- played, whatever the op. -/
theorem played_any {S : Led.Sens} {Ls L0 M : Nat} {i : PIx} {x : PVl} (kd wh a : Int) (n : List UInt8) (d u : Int) (w : World) (h : PI L0 M i x w) (hS : Led.Sen S Ls w) (hL : Ls ≤ L0) (hM : M ≤ 300) (hc : newCode i.me i.N = 0) (ha : -9223372036854775808 ≤ a ∧ a ≤ 9223372036854775807) (hn : n.length ≤ 140737488355328) (hd : -9223372036854775808 ≤ d ∧ d ≤ 9223372036854775807) (hu : -9223372036854775808 ≤ u ∧ u ≤ 9223372036854775807) :
    Calls Tryd.prog 18 #[.pointer (some ⟨i.pb, 0, none⟩), .agg #[.int .i64 kd, .int .i64 wh, .int .i64 a, .string ⟨n.toArray⟩, .int .i64 d, .int .i64 u]] w fun e w' => e = .returned (.bool true) ∧ ∃ x', PI L0 (M + 1) i x' w' ∧ PNew i x.gv x.vv x'.gv x'.vv w w' := by
  by_cases h1 : kd = 1
  · refine (played_1 kd wh a n d u w h hM hn h1).mono ?_
    rintro e w' ⟨rfl, gv', hp, hq⟩
    exact ⟨rfl, _, hp, hq⟩
  by_cases h2 : kd = 2
  · exact played_2 kd wh a n d u w h hM hc h2
  by_cases h3 : kd = 3
  · exact played_3 kd wh a n d u w h hS hL h3
  by_cases h4 : kd = 4
  · refine (played_4 kd wh a n d u w h hM h4).mono ?_
    rintro e w' ⟨rfl, hp, hq⟩
    exact ⟨rfl, _, hp, hq⟩
  by_cases h5 : kd = 5
  · refine (played_5 kd wh a n d u w h hS hL (wrap_in hd) (wrap_in hu) h5).mono ?_
    rintro e w' ⟨rfl, hp, hq⟩
    exact ⟨rfl, _, hp, hq⟩
  by_cases h6 : kd = 6
  · refine (played_6 kd wh a n d u w h hS hL h6).mono ?_
    rintro e w' ⟨rfl, hp, hq⟩
    exact ⟨rfl, _, hp, hq⟩
  by_cases h7 : kd = 7
  · by_cases hr : wx a i.N = i.me
    · refine (played_7o kd wh a n d u w h hM hc ha hn hd hu hr h7).mono ?_
      rintro e w' ⟨rfl, vv', hp, hq⟩
      exact ⟨rfl, _, hp, hq⟩
    · refine (played_7 kd wh a n d u w h hM hc ha hn hd hu hr h7).mono ?_
      rintro e w' ⟨rfl, vv', hp, hq⟩
      exact ⟨rfl, _, hp, hq⟩
  · refine (played_0 kd wh a n d u w h h1 h2 h3 h4 h5 h6 h7).mono ?_
    rintro e w' ⟨rfl, hp, hq⟩
    exact ⟨rfl, _, hp, hq⟩
theorem PI.lower {L0 L1 M : Nat} {i : PIx} {x : PVl} {w : World} (h : PI L0 M i x w) (hl : L1 ≤ L0) : PI L1 M i x w := by
  obtain ⟨l1, l2, l3, l4, l5, l6, l7⟩ := h.lo
  exact ⟨h.box, h.gs, ⟨h.rg.blk, ownsRow_mono h.rg.row hl, Nat.le_trans hl h.rg.lo⟩, h.ld, h.rl, h.ok, h.vw, ⟨h.rv.blk, ownsRow_mono h.rv.row hl, Nat.le_trans hl h.rv.lo⟩, h.ag, h.al, h.ver, h.kd, h.lo', h.lg, h.gl, h.ne, ⟨by omega, by omega, by omega, by omega, by omega, by omega, by omega⟩⟩
/-- The pairs within run, which began at w0. -/
structure RI (w0 : World) (is : List PIx) (k : Nat) (ps : List (PIx × PVl)) (w : World) : Prop where
  ix : ps.map (·.1) = is
  all : ∀ p ∈ ps, PI w0.heap.size k p.1 p.2 w
  dj : ps.Pairwise (fun a b => ∀ k, ownQ a.1 a.2.gv a.2.vv k → ¬ ownQ b.1 b.2.gv b.2.vv k)
  bel : Below w0.heap.size w0 w
section
variable {w0 w w' : World} {k : Nat} {is : List PIx} {i : PIx} {ps qs : List (PIx × PVl)}
theorem RI.more (h : RI w0 is k ps w) (hb : Below w.heap.size w w') : RI w0 is k ps w' := ⟨h.ix, fun p hp => (h.all p hp).more hb, h.dj, h.bel.trans (hb.mono h.bel.size)⟩
theorem RI.mono (h : RI w0 is k ps w) : RI w0 is (k + 1) ps w := ⟨h.ix, fun p hp => (h.all p hp).mono, h.dj, h.bel⟩
theorem dj_sym {a b : PIx × PVl} (h : ∀ k, ownQ a.1 a.2.gv a.2.vv k → ¬ ownQ b.1 b.2.gv b.2.vv k) : ∀ k, ownQ b.1 b.2.gv b.2.vv k → ¬ ownQ a.1 a.2.gv a.2.vv k := fun k h1 h2 => h k h2 h1
/-- One of them plays. -/
theorem RI.play {S : Led.Sens} {Ls : Nat} (kd wh a : Int) (n : List UInt8) (d u : Int) (h : RI w0 is k ps w) (hi : i ∈ is) (hS : Led.Sen S Ls w0) (hL : Ls ≤ w0.heap.size) (hk : k ≤ 300) (hc : newCode i.me i.N = 0) (ha : -9223372036854775808 ≤ a ∧ a ≤ 9223372036854775807) (hn : n.length ≤ 140737488355328) (hd : -9223372036854775808 ≤ d ∧ d ≤ 9223372036854775807) (hu : -9223372036854775808 ≤ u ∧ u ≤ 9223372036854775807) :
    Calls Tryd.prog 18 #[.pointer (some ⟨i.pb, 0, none⟩), .agg #[.int .i64 kd, .int .i64 wh, .int .i64 a, .string ⟨n.toArray⟩, .int .i64 d, .int .i64 u]] w fun e w' => e = .returned (.bool true) ∧ ∃ ps', RI w0 is (k + 1) ps' w' := by
  obtain ⟨rfl, hall, hdj, hbel⟩ := h
  obtain ⟨⟨i0, x⟩, hx, rfl⟩ := List.mem_map.1 hi
  obtain ⟨P, Q, rfl⟩ := List.append_of_mem hx
  have hp := hall _ hx
  have hdj2 := (List.pairwise_append.1 hdj)
  have hdQ := List.pairwise_cons.1 hdj2.2.1
  have hO : ∀ q ∈ P ++ Q, ∀ b, ownQ q.1 q.2.gv q.2.vv b → ¬ ownQ i0 x.gv x.vv b := fun q hq => by
    rcases List.mem_append.1 hq with hq | hq
    · exact hdj2.2.2 q hq _ (List.mem_cons_self ..)
    · exact dj_sym (hdQ.1 q hq)
  refine (played_any kd wh a n d u w hp (hS.below (hbel.mono hL)) hL hk hc ha hn hd hu).mono ?_
  rintro e w' ⟨rfl, x', hx', hn'⟩
  have hbw : Below w0.heap.size w w' := hp.below hn'.chg
  refine ⟨rfl, P ++ (i0, x') :: Q, by simp, fun q hq => ?_, ?_, hbel.trans hbw⟩
  · have hq' : q = (i0, x') ∨ q ∈ P ++ Q := by simpa [or_assoc, or_comm, or_left_comm] using hq
    rcases hq' with rfl | hq'
    · exact hx'
    · have hq2 := hall q (by simp at hq' ⊢; rcases hq' with h | h <;> simp [h])
      exact (hq2.keep (w' := w') (fun b hb => hn'.chg.block b (hq2.lt hb).2 (hO q hq' b hb))).mono
  · have hnew : ∀ q ∈ P ++ Q, ∀ b, ownQ q.1 q.2.gv q.2.vv b → ¬ ownQ i0 x'.gv x'.vv b := fun q hq b hb ho => by
      have hq2 := hall q (by simp at hq ⊢; rcases hq with h | h <;> simp [h])
      have hlt : b < w.heap.size := (hq2.lt hb).2
      have hno := hO q hq b hb
      rcases ho with e | e | e | e | e | e | e | e | e | e | e
      · exact hno (Or.inl e)
      · exact hno (Or.inr (Or.inl e))
      · exact hno (Or.inr (Or.inr (Or.inl e)))
      · exact hno (Or.inr (Or.inr (Or.inr (Or.inl e))))
      · exact hno (Or.inr (Or.inr (Or.inr (Or.inr (Or.inl e)))))
      · exact hno (Or.inr (Or.inr (Or.inr (Or.inr (Or.inr (Or.inl e))))))
      · exact hno (Or.inr (Or.inr (Or.inr (Or.inr (Or.inr (Or.inr (Or.inl e)))))))
      · exact hno (Or.inr (Or.inr (Or.inr (Or.inr (Or.inr (Or.inr (Or.inr (Or.inl e))))))))
      · exact hno (Or.inr (Or.inr (Or.inr (Or.inr (Or.inr (Or.inr (Or.inr (Or.inr (Or.inl e)))))))))
      · rcases hn'.ga b e with e | e
        · exact hno (Or.inr (Or.inr (Or.inr (Or.inr (Or.inr (Or.inr (Or.inr (Or.inr (Or.inr (Or.inl e))))))))))
        · omega
      · rcases hn'.va b e with e | e
        · exact hno (Or.inr (Or.inr (Or.inr (Or.inr (Or.inr (Or.inr (Or.inr (Or.inr (Or.inr (Or.inr e))))))))))
        · omega
    refine List.pairwise_append.2 ⟨hdj2.1, List.pairwise_cons.2 ⟨fun q hq => dj_sym (hnew q (List.mem_append.2 (Or.inr hq))), hdQ.2⟩, fun p hp q hq => ?_⟩
    rcases List.mem_cons.1 hq with rfl | hq
    · exact hnew p (List.mem_append.2 (Or.inl hp))
    · exact hdj2.2.2 p hp q (List.mem_cons_of_mem _ hq)
/-- made, whichever it is: nil, or one more pair. -/
theorem RI.made (h : RI w0 is 0 ps w) (me N : Int) :
    Calls Tryd.prog 17 #[.int .i64 me, .int .i64 N] w fun e w' => ∃ (pv : Value) (is' : List PIx) (ps' : List (PIx × PVl)), e = .returned (.tuple #[pv, .bool true]) ∧ RI w0 is' 0 ps' w' ∧ (∀ j ∈ is, j ∈ is') ∧ (pv = .pointer none ∨ ∃ i ∈ is', newCode i.me i.N = 0 ∧ pv = .pointer (some ⟨i.pb, 0, none⟩)) := by
  by_cases hc : newCode me N = 0
  · obtain ⟨n, rfl⟩ : ∃ n : Nat, N = n := ⟨N.toNat, by
      unfold newCode at hc
      split at hc
      · cases hc
      · omega⟩
    refine (made_yes me n w hc).mono ?_
    rintro e w' ⟨i, x, rfl, hme, hN, _, _, _, _, _, _, hp, hb⟩
    have hs := h.bel.size
    refine ⟨_, i :: is, (i, x) :: ps, rfl, ⟨by simp [h.ix], fun q hq => ?_, List.pairwise_cons.2 ⟨fun q hq b h1 h2 => ?_, h.dj⟩, h.bel.trans (hb.mono hs)⟩, fun j hj => List.mem_cons_of_mem _ hj, Or.inr ⟨i, List.mem_cons_self .., by rw [hme, hN]; exact hc, rfl⟩⟩
    · rcases List.mem_cons.1 hq with rfl | hq
      · exact hp.lower hs
      · exact (h.all q hq).more hb
    · have := (hp.lt h1).1
      have := ((h.all q hq).lt h2).2
      omega
  · refine (made_no me N w hc).mono ?_
    rintro e w' ⟨rfl, rfl⟩
    exact ⟨_, is, ps, rfl, h, fun j hj => hj, Or.inl rfl⟩
end
end Go.Proofs.YtjmbhaoehfdpoaaDoor
