import Derived.Test.YtnphkmdanicemaaGreatDoorVVw
namespace Go.Proofs.YtnphkmdanicemaaGreatDoor
open Go.RowKit Go.PlainAid Go.MapKept
set_option linter.unusedVariables false
set_option linter.unusedSimpArgs false
set_option maxRecDepth 100000 in
set_option maxHeartbeats 1600000 in
theorem keep_any {hb mb : Nat} {me N : Int} {L : List Ent} (r : Int) (e : Ent) (w : World) (hV : Vw hb mb me N L w) (hl : e.n.length ≤ 140737488355328) :
    Calls Tryz.prog 49 #[.pointer (some ⟨hb, 0, none⟩), .int .i64 r, viewV e] w fun q w' => q = .returned (.tuple #[]) ∧ Vw hb mb me N (putE { e with r := r } L) w' ∧ Chg (fun k => k = mb) w w' := by
  obtain ⟨er, n, c, rc, v, d, u, h⟩ := e
  simp only at hl
  unfold viewV
  simp only
  have HCL : Hid _ := fun w => clone_any n w (by omega)
  have hB := view_box ⟨er, n, c, rc, v, d, u, h⟩ w
  simp only at hB
  have hgr : Below w.heap.size w (w.alloc (.cells #[.string ⟨n.toArray⟩, .int .i64 c, .int .i64 rc, .int .i64 v, .int .i64 d, .int .i64 u, .int .i64 h] 105)) := (Below.refl _ _).alloc (Nat.le_refl _) _
  have HB : Hid _ := hB
  have HG : Hid _ := hgr
  have HVV : Hid _ := hV
  clear hB hgr hV
  go_enter Tryz.func49, Tryz.ntmps49
  go_wp2_with fail
  refine Calls.mono (HCL.out _) ?_
  rintro e w2 ⟨rfl, hb2⟩
  have hB2 : Blk w2 w.heap.size #[.string ⟨n.toArray⟩, .int .i64 c, .int .i64 rc, .int .i64 v, .int .i64 d, .int .i64 u, .int .i64 h] 105 := Blk.below HB.out hb2 (Blk.lt HB.out)
  have fz := hB2.frozen 0
  have hb3 : Below w.heap.size w (w2.setCell ⟨w.heap.size, 0, none⟩ (.string ⟨n.toArray⟩)) := by
    have q1 : Below w.heap.size w w2 := HG.out.trans (hb2.mono HG.out.size)
    exact q1.trans ⟨rfl, rfl, rfl, by simp [World.setCell], fun k hk => Below.heap_setCell _ _ _ _ (Nat.ne_of_lt hk)⟩
  have hB3 : Blk (w2.setCell ⟨w.heap.size, 0, none⟩ (.string ⟨n.toArray⟩)) w.heap.size #[.string ⟨n.toArray⟩, .int .i64 c, .int .i64 rc, .int .i64 v, .int .i64 d, .int .i64 u, .int .i64 h] 105 := hB2.set 0 (.string ⟨n.toArray⟩)
  have cz : w2.cell? ⟨w.heap.size, 0, none⟩ = some (.string ⟨n.toArray⟩) := hB2.cell 0
  have HH := HVV.out.more hb3
  have HV := box_cells (e := ⟨er, n, c, rc, v, d, u, h⟩) hB3
  have HB3 : Hid _ := hb3
  clear hB2 hb3 hB3 hb2 HB HG HVV HCL
  go_wp2_with fail
  generalize w2.setCell ⟨w.heap.size, 0, none⟩ (.string ⟨n.toArray⟩) = X at *
  obtain ⟨bx, hbx⟩ : ∃ bx, bx = w.heap.size := ⟨_, rfl⟩
  rw [← hbx] at HV ⊢
  clear cz fz
  try rw [show ∀ a : Act, a.put none undef = a from fun _ => rfl]
  refine wp_region_mix (fun wq => Below X.heap.size X wq) (fun i => i == 9) 9 (by kernel_rfl) rfl (by kernel_rfl) (by kernel_rfl) (by kernel_rfl) ?_
  refine withFrP (N := 19) rfl ?_
  intro f0 F0 hff
  have e0 : f0 0 = Value.pointer (some ⟨hb, 0, none⟩) := hff 0
  have e1 : f0 1 = Value.int .i64 r := hff 1
  have e5 : f0 5 = Value.pointer (some ⟨bx, 0, none⟩) := hff 5
  clear hff
  have HCC : (fun wq => Below X.heap.size X wq) (({ X with drawn := X.drawn + 1 } : World)) := (Below.drew (Below.refl X.heap.size X))
  have VB : ∀ wr, Below X.heap.size X wr → VAt wr bx 0 ⟨er, n, c, rc, v, d, u, h⟩ := fun wr hw => HV.keep (hw.block bx HV.lt)
  have VH : ∀ wr, Below X.heap.size X wr → wr.cell? ⟨hb, 2, none⟩ = some (.map (some mb)) := fun wr hw => (hw.cell (p := ⟨hb, 2, none⟩) (World.block_lt_of_cell? X _ HH.c2)).trans HH.c2
  obtain ⟨w4, hrun, hm4, hc4, hs4⟩ := HMap.put (w := ({ X with drawn := X.drawn + 1 } : World)) (HMap.same HH.map rfl) ⟨r, n, c, rc, v, d, u, h⟩
  unfold keyV viewV at hrun
  simp only at hrun
  refine lyp F0 rfl HCC rfl (by omega) (wanted_none rfl) (v := Value.pointer (some ⟨hb, 0, none⟩)) (fun wr hwr => by simp only [execOp, (F0.eval 0 (by omega)).trans (show _ = Value.pointer (some ⟨hb, 0, none⟩) from by simp [upd, e0, e1, e5])]; first | rfl | simp [go_sem]) fun F1 => ?_
  refine lyp F1 rfl HCC rfl (by omega) (wanted_none rfl) (v := Value.pointer (some ⟨hb, 0, none⟩)) (fun wr hwr => by simp only [execOp, (F1.eval 10 (by omega)).trans (show _ = Value.pointer (some ⟨hb, 0, none⟩) from by simp [upd, e0, e1, e5])]; simp [go_sem]) fun F2 => ?_
  refine lyp F2 rfl HCC rfl (by omega) (wanted_none rfl) (v := Value.pointer (some ⟨hb, 2, none⟩)) (fun wr hwr => by simp only [execOp, (F2.eval 11 (by omega)).trans (show _ = Value.pointer (some ⟨hb, 0, none⟩) from by simp [upd, e0, e1, e5])]; simp [go_sem]) fun F3 => ?_
  refine lyp F3 rfl HCC rfl (by omega) (wanted_none rfl) (v := Value.map (some mb)) (fun wr hwr => by simp only [execOp, (F3.eval 12 (by omega)).trans (show _ = Value.pointer (some ⟨hb, 2, none⟩) from by simp [upd, e0, e1, e5])]; simp [go_sem, VH wr hwr]) fun F4 => ?_
  refine lyp F4 rfl HCC rfl (by omega) (wanted_none rfl) (v := Value.int .i64 r) (fun wr hwr => by simp only [execOp, (F4.eval 1 (by omega)).trans (show _ = Value.int .i64 r from by simp [upd, e0, e1, e5])]; first | rfl | simp [go_sem]) fun F5 => ?_
  refine lyp F5 rfl HCC rfl (by omega) (wanted_none rfl) (v := Value.pointer (some ⟨bx, 0, none⟩)) (fun wr hwr => by simp only [execOp, (F5.eval 5 (by omega)).trans (show _ = Value.pointer (some ⟨bx, 0, none⟩) from by simp [upd, e0, e1, e5])]; simp [go_sem]) fun F6 => ?_
  refine lyp F6 rfl HCC rfl (by omega) (wanted_none rfl) (v := Value.string ⟨n.toArray⟩) (fun wr hwr => by simp only [execOp, (F6.eval 15 (by omega)).trans (show _ = Value.pointer (some ⟨bx, 0, none⟩) from by simp [upd, e0, e1, e5])]; simp [go_sem, (VB wr hwr).c0]) fun F7 => ?_
  refine lyp F7 rfl HCC rfl (by omega) (wanted_none rfl) (v := Value.agg #[.int .i64 r, .string ⟨n.toArray⟩]) (fun wr hwr => by simp only [execOp, (F7.eval 14 (by omega)).trans (show _ = Value.int .i64 r from by simp [upd, e0, e1, e5]), (F7.eval 16 (by omega)).trans (show _ = Value.string ⟨n.toArray⟩ from by simp [upd, e0, e1, e5])]; simp [go_sem, Act.eval]) fun F8 => ?_
  refine lyp F8 rfl HCC rfl (by omega) (wanted_none rfl) (v := Value.agg #[.string ⟨n.toArray⟩, .int .i64 c, .int .i64 rc, .int .i64 v, .int .i64 d, .int .i64 u, .int .i64 h]) (fun wr hwr => by simp only [execOp, (F8.eval 5 (by omega)).trans (show _ = Value.pointer (some ⟨bx, 0, none⟩) from by simp [upd, e0, e1, e5])]; simp [go_sem, (VB wr hwr).c0, (VB wr hwr).c1, (VB wr hwr).c2, (VB wr hwr).c3, (VB wr hwr).c4, (VB wr hwr).c5, (VB wr hwr).c6]) fun F9 => ?_
  refine lst rfl HCC rfl (wanted_none rfl) (w1 := w4) (by simp only [execOp, (F9.eval 13 (by omega)).trans (show _ = Value.map (some mb) from by simp [upd, e0, e1, e5]), (F9.eval 17 (by omega)).trans (show _ = Value.agg #[.int .i64 r, .string ⟨n.toArray⟩] from by simp [upd, e0, e1, e5]), (F9.eval 18 (by omega)).trans (show _ = Value.agg #[.string ⟨n.toArray⟩, .int .i64 c, .int .i64 rc, .int .i64 v, .int .i64 d, .int .i64 u, .int .i64 h] from by simp [upd, e0, e1, e5])]; simp [go_sem, show (Instr.mapUpdate 96 (.map (some mb)) (.agg #[.int .i64 r, .string ⟨n.toArray⟩]) (.agg #[.string ⟨n.toArray⟩, .int .i64 c, .int .i64 rc, .int .i64 v, .int .i64 d, .int .i64 u, .int .i64 h])).run Tryz.prog X.drew = .ok () w4 from hrun]) ?_
  refine ⟨fun h => by omega, ?_⟩
  clear F0 F1 F2 F3 F4 F5 F6 F7 F8 F9 e0 e1 e5 HCC VB VH
  simp only [Act.put, List.setIfInBounds_toArray, List.set_cons_succ, List.set_cons_zero]
  have hfin : Vw hb mb me N (putE ⟨r, n, c, rc, v, d, u, h⟩ L) w4 := ⟨hc4.blk (show Blk _ hb _ 98 from HH.blk) HH.ne, hm4⟩
  have hch : Chg (fun k => k = mb) w w4 := ((Chg.ofBelow (fun k => k = mb) HB3.out).drewN 1).trans hc4 (fun _ _ e => e)
  have HFI : Hid _ := hfin
  have HCH : Hid _ := hch
  clear hfin hch hc4 hm4 hrun hs4 HH HV
  go_wp2_with fail
  first | go_end0 | go_ret
  exact ⟨rfl, HFI.out, HCH.out⟩
end Go.Proofs.YtnphkmdanicemaaGreatDoor
namespace Go.Proofs.YtnphkmdanicemaaGreatDoor
open Go.RowKit Go.PlainAid Go.MapKept
set_option linter.unusedVariables false
set_option linter.unusedSimpArgs false
def newCode (me n : Int) : Int := if n < 2 ∨ 16 < n then 1 else if me < 0 ∨ n ≤ me then 3 else 0
set_option maxRecDepth 100000 in
set_option maxHeartbeats 1600000 in
theorem new_any (me n : Int) (w : World) (h : newCode me n = 0) :
    Calls Tryz.prog 18 #[.int .i64 me, .int .i64 n] w fun e w' => e = .returned (.tuple #[.pointer (some ⟨w.heap.size + 1, 0, none⟩), .int .i64 0]) ∧ Vw (w.heap.size + 1) w.heap.size me n [] w' ∧ Below w.heap.size w w' ∧ w'.heap.size = w.heap.size + 2 := by
  have h2 : ¬ n < 2 ∧ ¬ 16 < n ∧ ¬ me < 0 ∧ ¬ n ≤ me := by
    unfold newCode at h
    split at h
    · cases h
    · split at h
      · cases h
      · omega
  obtain ⟨a1, a2, a3, a4⟩ := h2
  have hmm := @run_makeMap Tryz.prog
  clear h
  go_enter Tryz.func18, Tryz.ntmps18
  go_wp2_with fail
  go_ret2
  have g1 : Below w.heap.size w (w.alloc (.map #[] 0)) := (Below.refl _ _).alloc (Nat.le_refl _) _
  refine ⟨rfl, ⟨?_, ?_⟩, g1.alloc (by simp) _, by simp⟩
  · have := heap_alloc_new (w.alloc (.map #[] 0)) (.cells #[.int .i64 me, .int .i64 n, .map (some w.heap.size)] 98)
    rw [World.size_alloc] at this
    exact this
  · exact (HMap.made w).same (((Below.refl _ _).alloc (Nat.le_refl _) _).block _ (by simp))
set_option maxRecDepth 100000 in
set_option maxHeartbeats 1600000 in
theorem new_no (me n : Int) (w : World) (h : newCode me n ≠ 0) :
    Calls Tryz.prog 18 #[.int .i64 me, .int .i64 n] w fun e w' => e = .returned (.tuple #[.pointer none, .int .i64 (newCode me n)]) ∧ w' = w := by
  by_cases h1 : n < 2
  · have hc : newCode me n = 1 := by unfold newCode; rw [if_pos (Or.inl h1)]
    rw [hc]
    clear h hc
    go_enter Tryz.func18, Tryz.ntmps18
    go_wp2_with fail
    go_ret2
    exact ⟨rfl, rfl⟩
  by_cases h2 : 16 < n
  · have hc : newCode me n = 1 := by unfold newCode; rw [if_pos (Or.inr h2)]
    rw [hc]
    clear h hc
    go_enter Tryz.func18, Tryz.ntmps18
    go_wp2_with fail
    go_ret2
    exact ⟨rfl, rfl⟩
  have hn : ¬ (n < 2 ∨ 16 < n) := fun e => e.elim h1 h2
  by_cases h3 : me < 0
  · have hc : newCode me n = 3 := by unfold newCode; rw [if_neg hn, if_pos (Or.inl h3)]
    rw [hc]
    clear h hc hn
    go_enter Tryz.func18, Tryz.ntmps18
    go_wp2_with fail
    go_ret2
    exact ⟨rfl, rfl⟩
  by_cases h4 : n ≤ me
  · have hc : newCode me n = 3 := by unfold newCode; rw [if_neg hn, if_pos (Or.inr h4)]
    rw [hc]
    clear h hc hn
    go_enter Tryz.func18, Tryz.ntmps18
    go_wp2_with fail
    go_ret2
    exact ⟨rfl, rfl⟩
  · exact absurd (by unfold newCode; rw [if_neg hn, if_neg (fun e => e.elim h3 h4)]) h
/-- About: the sum of the Downs, and whether anybody has said anything. -/
def aboutS (n : List UInt8) (L : List Ent) : Nat → Int
  | 0 => 0
  | k + 1 => aboutS n L k + (lookD k n L).d
def aboutK (n : List UInt8) (L : List Ent) : Nat → Bool
  | 0 => false
  | k + 1 => aboutK n L k || (look k n L).isSome
theorem aboutS_le {n : List UInt8} {L : List Ent} (h : ∀ e ∈ L, 0 ≤ e.d ∧ e.d ≤ 1099511627776) : ∀ k, 0 ≤ aboutS n L k ∧ aboutS n L k ≤ 1099511627776 * k
  | 0 => by simp [aboutS]
  | k + 1 => by
    have ih := aboutS_le (n := n) h k
    have hd : 0 ≤ (lookD k n L).d ∧ (lookD k n L).d ≤ 1099511627776 := by
      unfold lookD
      cases hq : look k n L with
      | none => exact ⟨Int.le_refl _, by decide⟩
      | some e => exact h e (List.mem_of_find?_eq_some hq)
    simp only [aboutS]
    omega
set_option maxRecDepth 100000 in
set_option maxHeartbeats 1600000 in
theorem about_any {hb mb N : Nat} {me : Int} {L : List Ent} (n : List UInt8) (w : World) (hV : Vw hb mb me N L w) (hN : N ≤ 16) (hd : ∀ e ∈ L, 0 ≤ e.d ∧ e.d ≤ 1099511627776) :
    Calls Tryz.prog 56 #[.pointer (some ⟨hb, 0, none⟩), .string ⟨n.toArray⟩] w fun e w' => e = .returned (.tuple #[.int .i64 (aboutS n L N), .bool (aboutK n L N)]) ∧ Below w.heap.size w w' := by
  have k1 := hV.c1
  have hle := fun k => aboutS_le (n := n) hd k
  have HLE : Hid _ := hle
  have HV : Hid _ := hV
  clear hle hV hd
  go_enter Tryz.func56, Tryz.ntmps56
  go_wp2_with fail
  go_loopw [6, 7, 15] (fun s b i wr => ∃ q : Nat, q ≤ N ∧ i = .int .i64 q ∧ s = .int .i64 (aboutS n L q) ∧ b = .bool (aboutK n L q) ∧ Below w.heap.size w wr) (fun _ _ i _ => N - (intOf i).toNat)
  case atStart => exact ⟨0, Nat.zero_le _, rfl, rfl, rfl, Below.refl _ _⟩
  case round =>
    obtain ⟨q, hq, rfl, rfl, rfl, hbel⟩ := hrel
    by_cases hlt : q < N
    · have hV2 := HV.out.more hbel
      have k2 := hV2.c2
      have hlk := hV2.map.look_ok (q : Int) n true
      simp only [cond_true] at hlk
      have l1 := HLE.out q
      have l2 := HLE.out (q + 1)
      have HA : Hid (aboutS n L (q + 1) = aboutS n L q + (lookD q n L).d) := rfl
      have HK : Hid (aboutK n L (q + 1) = (aboutK n L q || (look q n L).isSome)) := rfl
      rw [HA.out] at l2
      generalize aboutS n L q = s0 at *
      generalize aboutK n L q = b0 at *
      generalize (look q n L).isSome = is0 at *
      generalize lookD q n L = e0 at *
      have hw : IntKind.i64.wrap (s0 + e0.d) = s0 + e0.d := by rw [IntKind.wrap_i64]; omega
      have HB : Hid _ := hbel
      clear hbel hV2 l1 l2
      unfold keyV viewV at hlk
      have hgr : Below wr.heap.size wr (wr.alloc (.cells #[.string ⟨e0.n.toArray⟩, .int .i64 e0.c, .int .i64 e0.rc, .int .i64 e0.v, .int .i64 e0.d, .int .i64 e0.u, .int .i64 e0.h] 105)) := (Below.refl _ _).alloc (Nat.le_refl _) _
      have HG : Hid _ := hgr
      clear hgr
      cases b0
      · go_wp2_with fail
        go_roundw
        case rel => exact ⟨q + 1, by omega, by go_num, by rw [HA.out], by rw [HK.out]; rfl, HB.out.trans (HG.out.mono HB.out.size)⟩
        case measure => simp [intOf]; omega
      · go_wp2_with fail
        go_roundw
        case rel => exact ⟨q + 1, by omega, by go_num, by rw [HA.out], by rw [HK.out]; rfl, HB.out.trans (HG.out.mono HB.out.size)⟩
        case measure => simp [intOf]; omega
    · obtain rfl : q = N := by omega
      have HB : Hid _ := hbel
      clear hbel
      go_wp2_with fail
      go_ret2
      exact ⟨rfl, HB.out⟩
end Go.Proofs.YtnphkmdanicemaaGreatDoor
