import Derived.Test.YtbjlaloofpdbfaaP4
namespace Go.Proofs.Ytbjlaloofpdbfaa
open Go.RowKit Go.PlainAid
set_option linter.unusedVariables false
set_option linter.unusedSimpArgs false
set_option maxRecDepth 100000 in
set_option maxHeartbeats 1600000 in
theorem callK {S0 pb hb mh mw B rb : Nat} {me rep per mk : Int} {KL : List (List UInt8)} {WT : List ((Int × Int) × OpA)} {lt wt lc wc : Value} (n : List UInt8) (c : Int × Int) (o : OpA) (w : World) (h : AP S0 pb hb mh mw B rb me rep per (KNof rep KL) WT KL WT mk lt wt lc wc w) (hL : KL.length ≤ 100000) (hW : WT.length ≤ 100000) :
    Calls Try.prog 43 #[.pointer (some ⟨pb, 0, none⟩), .agg #[.int .i64 5, .string ⟨n.toArray⟩, .int .i64 c.1, .int .i64 c.2, .int .i64 o.k, .string ⟨o.n.toArray⟩, .int .i64 o.a, .int .i64 o.b]] w fun e w' => e = .returned (.bool true) ∧ AP S0 pb hb mh mw B rb me rep per (KNof rep KL) WT KL WT mk lt wt lc wc w' ∧ BK S0 w w' := by
  obtain ⟨kb, hkb⟩ : ∃ kb, kb = decide (n ∈ KL) := ⟨_, rfl⟩
  have HM1 : Hid (∀ w', Tb hb mh mw me rep per (KNof rep KL) WT w' → Calls Try.prog 23 #[.pointer (some ⟨hb, 0, none⟩), .string ⟨n.toArray⟩] w' fun q w'' => q = .returned (.bool kb) ∧ w'' = w') := fun w' hT => by
    have := knows_any n w' hT
    rw [knows_of, ← hkb] at this
    exact this
  have HM2 : Hid (∀ {kl wl : Value} w', RT B rb kl wl me rep per KL WT w' → Calls Try.prog 58 #[.pointer (some ⟨rb, 0, none⟩), .string ⟨n.toArray⟩] w' fun q w'' => q = .returned (.bool kb) ∧ w'' = w') := fun w' hR => by
    have := rknows_any n w' hR hL
    rw [← hkb] at this
    exact this
  obtain ⟨X, hX⟩ : ∃ X, X = w.alloc (.cells #[.int .i64 5, .string ⟨n.toArray⟩, .int .i64 c.1, .int .i64 c.2, .int .i64 o.k, .string ⟨o.n.toArray⟩, .int .i64 o.a, .int .i64 o.b] 41) := ⟨_, rfl⟩
  have hbX : Below w.heap.size w X := by rw [hX]; exact (Below.refl _ _).alloc (Nat.le_refl _) _
  obtain ⟨bx, hbx⟩ : ∃ bx, bx = w.heap.size := ⟨_, rfl⟩
  have HBXX : Hid (Blk X bx #[.int .i64 5, .string ⟨n.toArray⟩, .int .i64 c.1, .int .i64 c.2, .int .i64 o.k, .string ⟨o.n.toArray⟩, .int .i64 o.a, .int .i64 o.b] 41) := show Blk X bx #[.int .i64 5, .string ⟨n.toArray⟩, .int .i64 c.1, .int .i64 c.2, .int .i64 o.k, .string ⟨o.n.toArray⟩, .int .i64 o.a, .int .i64 o.b] 41 from by rw [hX, hbx]; exact heap_alloc_new w _
  have HAPX : Hid (AP S0 pb hb mh mw B rb me rep per (KNof rep KL) WT KL WT mk lt wt lc wc X) := h.more hbX
  have HS0 : Hid (BK S0 w X) := BK.of hbX h.low
  have b0 : X.cell? ⟨bx, 0, none⟩ = some (.int .i64 5) := HBXX.out.cell 0
  clear hkb h hL hW hbX
  obtain ⟨kl, wl, hr3⟩ := HAPX.out.r
  go_enter Try.func43, Try.ntmps43
  go_upto_region 16 with fail
  rw [← hX, ← hbx]
  clear hX hbx
  go_wp2_with fail
  rename_i K hK
  try rw [show ∀ a : Act, a.put none undef = a from fun _ => rfl]
  refine wp_region_mix (fun wz => wz.cell? ⟨pb, 0, none⟩ = some (.pointer (some ⟨hb, 0, none⟩)) ∧ wz.cell? ⟨pb, 1, none⟩ = some (.pointer (some ⟨rb, 0, none⟩)) ∧ wz.cell? ⟨bx, 1, none⟩ = some (.string ⟨n.toArray⟩)) (fun i => i == 6 || i == 13 || i == 99) 99 (by kernel_rfl) rfl (by kernel_rfl) (by kernel_rfl) (by kernel_rfl) ?_
  refine withFrP (N := 129) rfl ?_
  intro f0 F0 hff
  have e0 : f0 0 = Value.pointer (some ⟨pb, 0, none⟩) := hff 0
  have e3 : f0 3 = Value.pointer (some ⟨bx, 0, none⟩) := hff 3
  clear hff
  have HCC : (fun wz => wz.cell? ⟨pb, 0, none⟩ = some (.pointer (some ⟨hb, 0, none⟩)) ∧ wz.cell? ⟨pb, 1, none⟩ = some (.pointer (some ⟨rb, 0, none⟩)) ∧ wz.cell? ⟨bx, 1, none⟩ = some (.string ⟨n.toArray⟩)) (({ X with drawn := X.drawn + 1 } : World)) := ⟨Blk.cell (AP.p HAPX.out) 0, Blk.cell (AP.p HAPX.out) 1, Blk.cell HBXX.out 1⟩
  refine lyp F0 rfl HCC rfl (by omega) (wanted_none rfl) (v := Value.pointer (some ⟨pb, 0, none⟩)) (fun wr hwr => by simp only [execOp, (F0.eval 0 (by omega)).trans (show _ = Value.pointer (some ⟨pb, 0, none⟩) from by simp [upd, e0, e3])]; first | rfl | simp [go_sem]) fun F1 => ?_
  refine lyp F1 rfl HCC rfl (by omega) (wanted_none rfl) (v := Value.pointer (some ⟨pb, 0, none⟩)) (fun wr hwr => by simp only [execOp, (F1.eval 106 (by omega)).trans (show _ = Value.pointer (some ⟨pb, 0, none⟩) from by simp [upd, e0, e3])]; simp [go_sem]) fun F2 => ?_
  refine lyp F2 rfl HCC rfl (by omega) (wanted_none rfl) (v := Value.pointer (some ⟨pb, 0, none⟩)) (fun wr hwr => by simp only [execOp, (F2.eval 107 (by omega)).trans (show _ = Value.pointer (some ⟨pb, 0, none⟩) from by simp [upd, e0, e3])]; simp [go_sem]) fun F3 => ?_
  refine lyp F3 rfl HCC rfl (by omega) (wanted_none rfl) (v := Value.pointer (some ⟨hb, 0, none⟩)) (fun wr hwr => by simp only [execOp, (F3.eval 108 (by omega)).trans (show _ = Value.pointer (some ⟨pb, 0, none⟩) from by simp [upd, e0, e3])]; simp [go_sem, hwr.1]) fun F4 => ?_
  refine lyp F4 rfl HCC rfl (by omega) (wanted_none rfl) (v := Value.pointer (some ⟨bx, 1, none⟩)) (fun wr hwr => by simp only [execOp, (F4.eval 3 (by omega)).trans (show _ = Value.pointer (some ⟨bx, 0, none⟩) from by simp [upd, e0, e3])]; simp [go_sem]) fun F5 => ?_
  refine lyp F5 rfl HCC rfl (by omega) (wanted_none rfl) (v := Value.string ⟨n.toArray⟩) (fun wr hwr => by simp only [execOp, (F5.eval 110 (by omega)).trans (show _ = Value.pointer (some ⟨bx, 1, none⟩) from by simp [upd, e0, e3])]; simp [go_sem, hwr.2.2]) fun F6 => ?_
  refine lcp F6 rfl HCC rfl (by omega) (wanted_none rfl) (g := 23) (args := #[Value.pointer (some ⟨hb, 0, none⟩), Value.string ⟨n.toArray⟩]) (by simp only [execOp, resolve, invoke, List.map_toArray, List.map_cons, List.map_nil, (F6.eval 109 (by omega)).trans (show _ = Value.pointer (some ⟨hb, 0, none⟩) from by simp [upd, e0, e3]), (F6.eval 111 (by omega)).trans (show _ = Value.string ⟨n.toArray⟩ from by simp [upd, e0, e3])]; simp [go_sem, Act.eval]) (HM1.out (({ X with drawn := X.drawn + 1 } : World)) (AP.t HAPX.out |>.more (Below.drew (Below.refl _ _)))) ?_
  rintro e w2 ⟨rfl, hw2⟩
  subst hw2
  refine ⟨_, rfl, fun F7 => ?_⟩
  refine lyp F7 rfl HCC rfl (by omega) (wanted_none rfl) (v := Value.pointer (some ⟨pb, 0, none⟩)) (fun wr hwr => by simp only [execOp, (F7.eval 0 (by omega)).trans (show _ = Value.pointer (some ⟨pb, 0, none⟩) from by simp [upd, e0, e3])]; first | rfl | simp [go_sem]) fun F8 => ?_
  refine lyp F8 rfl HCC rfl (by omega) (wanted_none rfl) (v := Value.pointer (some ⟨pb, 0, none⟩)) (fun wr hwr => by simp only [execOp, (F8.eval 113 (by omega)).trans (show _ = Value.pointer (some ⟨pb, 0, none⟩) from by simp [upd, e0, e3])]; simp [go_sem]) fun F9 => ?_
  refine lyp F9 rfl HCC rfl (by omega) (wanted_none rfl) (v := Value.pointer (some ⟨pb, 1, none⟩)) (fun wr hwr => by simp only [execOp, (F9.eval 114 (by omega)).trans (show _ = Value.pointer (some ⟨pb, 0, none⟩) from by simp [upd, e0, e3])]; simp [go_sem]) fun F10 => ?_
  refine lyp F10 rfl HCC rfl (by omega) (wanted_none rfl) (v := Value.pointer (some ⟨rb, 0, none⟩)) (fun wr hwr => by simp only [execOp, (F10.eval 115 (by omega)).trans (show _ = Value.pointer (some ⟨pb, 1, none⟩) from by simp [upd, e0, e3])]; simp [go_sem, hwr.2.1]) fun F11 => ?_
  refine lyp F11 rfl HCC rfl (by omega) (wanted_none rfl) (v := Value.pointer (some ⟨bx, 1, none⟩)) (fun wr hwr => by simp only [execOp, (F11.eval 3 (by omega)).trans (show _ = Value.pointer (some ⟨bx, 0, none⟩) from by simp [upd, e0, e3])]; simp [go_sem]) fun F12 => ?_
  refine lyp F12 rfl HCC rfl (by omega) (wanted_none rfl) (v := Value.string ⟨n.toArray⟩) (fun wr hwr => by simp only [execOp, (F12.eval 117 (by omega)).trans (show _ = Value.pointer (some ⟨bx, 1, none⟩) from by simp [upd, e0, e3])]; simp [go_sem, hwr.2.2]) fun F13 => ?_
  refine lcp F13 rfl HCC rfl (by omega) (wanted_none rfl) (g := 58) (args := #[Value.pointer (some ⟨rb, 0, none⟩), Value.string ⟨n.toArray⟩]) (by simp only [execOp, resolve, invoke, List.map_toArray, List.map_cons, List.map_nil, (F13.eval 116 (by omega)).trans (show _ = Value.pointer (some ⟨rb, 0, none⟩) from by simp [upd, e0, e3]), (F13.eval 118 (by omega)).trans (show _ = Value.string ⟨n.toArray⟩ from by simp [upd, e0, e3])]; simp [go_sem, Act.eval]) (HM2.out (({ X with drawn := X.drawn + 1 } : World)) (hr3.more (Below.drew (Below.refl _ _)))) ?_
  rintro e w2 ⟨rfl, hw2⟩
  subst hw2
  refine ⟨_, rfl, fun F14 => ?_⟩
  refine lyp F14 rfl HCC rfl (by omega) (wanted_none rfl) (v := Value.bool true) (fun wr hwr => by simp only [execOp, (F14.eval 112 (by omega)).trans (show _ = Value.bool kb from by simp [upd, e0, e3]), (F14.eval 119 (by omega)).trans (show _ = Value.bool kb from by simp [upd, e0, e3])]; cases kb <;> simp [go_sem, Act.eval]) fun F15 => ?_
  refine lyp F15 rfl HCC rfl (by omega) (wanted_none rfl) (v := Value.bool true) (fun wr hwr => by simp only [execOp, (F15.eval 120 (by omega)).trans (show _ = Value.bool true from by simp [upd, e0, e3])]; first | rfl | simp [go_sem]) fun F16 => ?_
  refine ⟨fun _ => HCC, ?_⟩
  refine hK _ _ ?_
  clear F0 F1 F2 F3 F4 F5 F6 F7 F8 F9 F10 F11 F12 F13 F14 F15 F16 e0 e3 
  simp only [Act.put, List.setIfInBounds_toArray, List.set_cons_succ, List.set_cons_zero]

  have HF : Hid (AP S0 pb hb mh mw B rb me rep per (KNof rep KL) WT KL WT mk lt wt lc wc ({ X with drawn := X.drawn + 1 } : World)) := HAPX.out.more (Below.drew (Below.refl _ _))
  have HFB : Hid (BK S0 w ({ X with drawn := X.drawn + 1 } : World)) := HS0.out.trans (BK.dr S0 X)
  clear HCC b0
  go_wp2_with fail
  go_ret
  exact ⟨rfl, HF.out, HFB.out⟩
set_option maxRecDepth 100000 in
set_option maxHeartbeats 1600000 in
theorem callA {S0 pb hb mh mw B rb : Nat} {me rep per mk : Int} {KL : List (List UInt8)} {WT : List ((Int × Int) × OpA)} {ox oy : Value} (n : List UInt8) (c : Int × Int) (o : OpA) (w : World) (h : AP S0 pb hb mh mw B rb me rep per (KNof rep KL) WT KL WT mk (.slice none 0 0) (.slice none 0 0) ox oy w) (hL : KL.length ≤ 100000) (hW : WT.length ≤ 100000) (hnd : KL.Nodup) (hne : KL ≠ []) (hmk : 0 ≤ mk ∧ mk ≤ 1000 ∧ (mk + 1) % 3 ≠ 0) :
    Calls Try.prog 43 #[.pointer (some ⟨pb, 0, none⟩), .agg #[.int .i64 6, .string ⟨n.toArray⟩, .int .i64 c.1, .int .i64 c.2, .int .i64 o.k, .string ⟨o.n.toArray⟩, .int .i64 o.a, .int .i64 o.b]] w fun e w' => e = .returned (.bool true) ∧ (∃ x y, AP S0 pb hb mh mw B rb me rep per (KNof rep KL) WT KL WT (mk + 1) x y ox oy w') ∧ BK S0 w w' := by
  obtain ⟨X, hX⟩ : ∃ X, X = w.alloc (.cells #[.int .i64 6, .string ⟨n.toArray⟩, .int .i64 c.1, .int .i64 c.2, .int .i64 o.k, .string ⟨o.n.toArray⟩, .int .i64 o.a, .int .i64 o.b] 41) := ⟨_, rfl⟩
  have hbX : Below w.heap.size w X := by rw [hX]; exact (Below.refl _ _).alloc (Nat.le_refl _) _
  obtain ⟨bx, hbx⟩ : ∃ bx, bx = w.heap.size := ⟨_, rfl⟩
  have HBXX : Hid (Blk X bx #[.int .i64 6, .string ⟨n.toArray⟩, .int .i64 c.1, .int .i64 c.2, .int .i64 o.k, .string ⟨o.n.toArray⟩, .int .i64 o.a, .int .i64 o.b] 41) := show Blk X bx #[.int .i64 6, .string ⟨n.toArray⟩, .int .i64 c.1, .int .i64 c.2, .int .i64 o.k, .string ⟨o.n.toArray⟩, .int .i64 o.a, .int .i64 o.b] 41 from by rw [hX, hbx]; exact heap_alloc_new w _
  have HAPX : Hid (AP S0 pb hb mh mw B rb me rep per (KNof rep KL) WT KL WT mk (.slice none 0 0) (.slice none 0 0) ox oy X) := h.more hbX
  have HS0 : Hid (BK S0 w X) := BK.of hbX h.low
  have b0 : X.cell? ⟨bx, 0, none⟩ = some (.int .i64 6) := HBXX.out.cell 0
  obtain ⟨kl, wl, hr3⟩ := HAPX.out.r
  have hKL : (KNof rep KL).length ≤ 100000 := by unfold KNof; simpa using hL
  have HA : Hid (Calls Try.prog 59 #[.pointer (some ⟨pb, 0, none⟩)] X fun e w' => e = .returned (.bool true) ∧ (∃ x y, AP S0 pb hb mh mw B rb me rep per (KNof rep KL) WT KL WT (mk + 1) x y ox oy w') ∧ BK S0 X w') := by
    refine Calls.mono (all_first X HAPX.out.p HAPX.out.t hr3 hKL hL hW (by unfold KNof; rw [List.map_map]; exact List.map_id KL) hnd hne hmk) ?_
    rintro e w' ⟨rfl, ⟨x, y, hB⟩, hc⟩
    have np : ∀ b, (∀ (D : Array Value), ¬ Blk X b D 67) → b ≠ pb := fun b hn e => hn _ (e ▸ HAPX.out.p)
    refine ⟨rfl, ⟨x, y, hB, HAPX.out.t.keep hc (HAPX.out.t.blk.ne_t HAPX.out.p (by decide)) (fun e => HAPX.out.t.hm.ne_b HAPX.out.p e.symm) (fun e => HAPX.out.t.wm.ne_b HAPX.out.p e.symm), ⟨kl, wl, hr3.keep hc (fun b e hb => RA.nb hr3 HAPX.out.p (by decide) (by decide) (by decide) (hb ▸ e))⟩, HAPX.out.lo, Nat.le_trans HAPX.out.low hc.size⟩, ⟨hc.below HAPX.out.low (fun k e => by rw [e]; exact HAPX.out.lo.1), fun b D hB2 => hc.blk hB2 (hB2.ne_t HAPX.out.p (by decide))⟩⟩
  clear h hL hW hbX hnd hne hmk hKL
  go_enter Try.func43, Try.ntmps43
  go_upto_region 18 with fail
  rw [← hX, ← hbx]
  clear hX hbx
  go_wp2_with fail
  refine Calls.mono HA.out ?_
  rintro e w2 ⟨rfl, hf, hb2⟩
  have HF : Hid _ := hf
  have HFB : Hid (BK S0 w w2) := HS0.out.trans hb2
  clear hf hb2 HA b0
  go_wp2_with fail
  go_ret
  exact ⟨rfl, HF.out, HFB.out⟩
set_option maxRecDepth 100000 in
set_option maxHeartbeats 1600000 in
theorem callQ {S0 pb hb mh mw B rb : Nat} {me rep per mk : Int} {KL : List (List UInt8)} {WT : List ((Int × Int) × OpA)} {ox oy : Value} (n : List UInt8) (c : Int × Int) (o : OpA) (w : World) (h : AP S0 pb hb mh mw B rb me rep per (KNof rep KL) WT KL WT mk ox oy (.slice none 0 0) (.slice none 0 0) w) (hL : KL.length ≤ 100000) (hW : WT.length ≤ 100000) (hnd : (WT.map (·.1)).Nodup) (hne : WT.map (·.1) ≠ []) (hmk : 0 ≤ mk ∧ mk ≤ 1000 ∧ (mk + 1) % 3 ≠ 0) :
    Calls Try.prog 43 #[.pointer (some ⟨pb, 0, none⟩), .agg #[.int .i64 7, .string ⟨n.toArray⟩, .int .i64 c.1, .int .i64 c.2, .int .i64 o.k, .string ⟨o.n.toArray⟩, .int .i64 o.a, .int .i64 o.b]] w fun e w' => e = .returned (.bool true) ∧ (∃ x y, AP S0 pb hb mh mw B rb me rep per (KNof rep KL) WT KL WT (mk + 1) ox oy x y w') ∧ BK S0 w w' := by
  obtain ⟨X, hX⟩ : ∃ X, X = w.alloc (.cells #[.int .i64 7, .string ⟨n.toArray⟩, .int .i64 c.1, .int .i64 c.2, .int .i64 o.k, .string ⟨o.n.toArray⟩, .int .i64 o.a, .int .i64 o.b] 41) := ⟨_, rfl⟩
  have hbX : Below w.heap.size w X := by rw [hX]; exact (Below.refl _ _).alloc (Nat.le_refl _) _
  obtain ⟨bx, hbx⟩ : ∃ bx, bx = w.heap.size := ⟨_, rfl⟩
  have HBXX : Hid (Blk X bx #[.int .i64 7, .string ⟨n.toArray⟩, .int .i64 c.1, .int .i64 c.2, .int .i64 o.k, .string ⟨o.n.toArray⟩, .int .i64 o.a, .int .i64 o.b] 41) := show Blk X bx #[.int .i64 7, .string ⟨n.toArray⟩, .int .i64 c.1, .int .i64 c.2, .int .i64 o.k, .string ⟨o.n.toArray⟩, .int .i64 o.a, .int .i64 o.b] 41 from by rw [hX, hbx]; exact heap_alloc_new w _
  have HAPX : Hid (AP S0 pb hb mh mw B rb me rep per (KNof rep KL) WT KL WT mk ox oy (.slice none 0 0) (.slice none 0 0) X) := h.more hbX
  have HS0 : Hid (BK S0 w X) := BK.of hbX h.low
  have b0 : X.cell? ⟨bx, 0, none⟩ = some (.int .i64 7) := HBXX.out.cell 0
  obtain ⟨kl, wl, hr3⟩ := HAPX.out.r
  have hKL : (KNof rep KL).length ≤ 100000 := by unfold KNof; simpa using hL
  have HA : Hid (Calls Try.prog 60 #[.pointer (some ⟨pb, 0, none⟩)] X fun e w' => e = .returned (.bool true) ∧ (∃ x y, AP S0 pb hb mh mw B rb me rep per (KNof rep KL) WT KL WT (mk + 1) ox oy x y w') ∧ BK S0 X w') := by
    refine Calls.mono (asked_first X HAPX.out.p HAPX.out.t hr3 hKL hL hW hnd hne hmk) ?_
    rintro e w' ⟨rfl, ⟨x, y, hB⟩, hc⟩
    have np : ∀ b, (∀ (D : Array Value), ¬ Blk X b D 67) → b ≠ pb := fun b hn e => hn _ (e ▸ HAPX.out.p)
    refine ⟨rfl, ⟨x, y, hB, HAPX.out.t.keep hc (HAPX.out.t.blk.ne_t HAPX.out.p (by decide)) (fun e => HAPX.out.t.hm.ne_b HAPX.out.p e.symm) (fun e => HAPX.out.t.wm.ne_b HAPX.out.p e.symm), ⟨kl, wl, hr3.keep hc (fun b e hb => RA.nb hr3 HAPX.out.p (by decide) (by decide) (by decide) (hb ▸ e))⟩, HAPX.out.lo, Nat.le_trans HAPX.out.low hc.size⟩, ⟨hc.below HAPX.out.low (fun k e => by rw [e]; exact HAPX.out.lo.1), fun b D hB2 => hc.blk hB2 (hB2.ne_t HAPX.out.p (by decide))⟩⟩
  clear h hL hW hbX hnd hne hmk hKL
  go_enter Try.func43, Try.ntmps43
  go_upto_region 20 with fail
  rw [← hX, ← hbx]
  clear hX hbx
  go_wp2_with fail
  refine Calls.mono HA.out ?_
  rintro e w2 ⟨rfl, hf, hb2⟩
  have HF : Hid _ := hf
  have HFB : Hid (BK S0 w w2) := HS0.out.trans hb2
  clear hf hb2 HA b0
  go_wp2_with fail
  go_ret
  exact ⟨rfl, HF.out, HFB.out⟩
set_option maxRecDepth 100000 in
set_option maxHeartbeats 1600000 in
theorem callS {S0 pb hb mh mw B rb : Nat} {me rep per mk : Int} {KL : List (List UInt8)} {WT : List ((Int × Int) × OpA)} {lt wt lc wc : Value} (n : List UInt8) (c : Int × Int) (o : OpA) (w : World) (h : AP S0 pb hb mh mw B rb me rep per (KNof rep KL) WT KL WT mk lt wt lc wc w) (hL : KL.length ≤ 100000) (hW : WT.length ≤ 100000) (hl : o.n.length ≤ 140737488355328) :
    Calls Try.prog 43 #[.pointer (some ⟨pb, 0, none⟩), .agg #[.int .i64 3, .string ⟨n.toArray⟩, .int .i64 c.1, .int .i64 c.2, .int .i64 o.k, .string ⟨o.n.toArray⟩, .int .i64 o.a, .int .i64 o.b]] w fun e w' => e = .returned (.bool true) ∧ AP S0 pb hb mh mw B rb me rep per (KNof rep KL) (askNext WT c o) KL (askNext WT c o) mk lt wt lc wc w' ∧ BK S0 w w' := by
  obtain ⟨cd, hcd⟩ : ∃ cd, cd = askCode WT c o := ⟨_, rfl⟩
  have HM1 : Hid (∀ w', Tb hb mh mw me rep per (KNof rep KL) WT w' → Calls Try.prog 19 #[.pointer (some ⟨hb, 0, none⟩), .agg #[.int .i64 c.1, .int .i64 c.2], .agg #[.int .i64 o.k, .string ⟨o.n.toArray⟩, .int .i64 o.a, .int .i64 o.b]] w' fun q w'' => q = .returned (.int .i64 cd) ∧ Tb hb mh mw me rep per (KNof rep KL) (askNext WT c o) w'' ∧ Chg (fun k => k = mw) w' w'') := fun w' hT => by
    rw [hcd]
    exact ask_any c o w' hT hl
  have HM2 : Hid (∀ {kl wl : Value} w', RT B rb kl wl me rep per KL WT w' → Calls Try.prog 56 #[.pointer (some ⟨rb, 0, none⟩), .agg #[.int .i64 c.1, .int .i64 c.2], .agg #[.int .i64 o.k, .string ⟨o.n.toArray⟩, .int .i64 o.a, .int .i64 o.b]] w' fun q w'' => q = .returned (.int .i64 cd) ∧ RPost B rb kl wl me rep per KL (askNext WT c o) w' w'') := fun w' hR => by
    rw [hcd]
    exact rask_any c o w' hR hW hl
  obtain ⟨X, hX⟩ : ∃ X, X = w.alloc (.cells #[.int .i64 3, .string ⟨n.toArray⟩, .int .i64 c.1, .int .i64 c.2, .int .i64 o.k, .string ⟨o.n.toArray⟩, .int .i64 o.a, .int .i64 o.b] 41) := ⟨_, rfl⟩
  have hbX : Below w.heap.size w X := by rw [hX]; exact (Below.refl _ _).alloc (Nat.le_refl _) _
  obtain ⟨bx, hbx⟩ : ∃ bx, bx = w.heap.size := ⟨_, rfl⟩
  have HBXX : Hid (Blk X bx #[.int .i64 3, .string ⟨n.toArray⟩, .int .i64 c.1, .int .i64 c.2, .int .i64 o.k, .string ⟨o.n.toArray⟩, .int .i64 o.a, .int .i64 o.b] 41) := show Blk X bx #[.int .i64 3, .string ⟨n.toArray⟩, .int .i64 c.1, .int .i64 c.2, .int .i64 o.k, .string ⟨o.n.toArray⟩, .int .i64 o.a, .int .i64 o.b] 41 from by rw [hX, hbx]; exact heap_alloc_new w _
  have HAPX : Hid (AP S0 pb hb mh mw B rb me rep per (KNof rep KL) WT KL WT mk lt wt lc wc X) := h.more hbX
  have HS0 : Hid (BK S0 w X) := BK.of hbX h.low
  have b0 : X.cell? ⟨bx, 0, none⟩ = some (.int .i64 3) := HBXX.out.cell 0
  generalize askNext WT c o = W2l at *
  clear hcd h hL hW hbX hl
  go_enter Try.func43, Try.ntmps43
  go_upto_region 9 with fail
  rw [← hX, ← hbx]
  clear hX hbx
  go_wp2_with fail
  rename_i K hK
  try rw [show ∀ a : Act, a.put none undef = a from fun _ => rfl]
  refine wp_region_mix (fun wz => wz.cell? ⟨pb, 0, none⟩ = some (.pointer (some ⟨hb, 0, none⟩)) ∧ Blk wz bx #[.int .i64 3, .string ⟨n.toArray⟩, .int .i64 c.1, .int .i64 c.2, .int .i64 o.k, .string ⟨o.n.toArray⟩, .int .i64 o.a, .int .i64 o.b] 41) (fun i => i == 8 || i == 99) 99 (by kernel_rfl) rfl (by kernel_rfl) (by kernel_rfl) (by kernel_rfl) ?_
  refine withFrP (N := 129) rfl ?_
  intro f0 F0 hff
  have e0 : f0 0 = Value.pointer (some ⟨pb, 0, none⟩) := hff 0
  have e3 : f0 3 = Value.pointer (some ⟨bx, 0, none⟩) := hff 3
  clear hff
  have HCC : (fun wz => wz.cell? ⟨pb, 0, none⟩ = some (.pointer (some ⟨hb, 0, none⟩)) ∧ Blk wz bx #[.int .i64 3, .string ⟨n.toArray⟩, .int .i64 c.1, .int .i64 c.2, .int .i64 o.k, .string ⟨o.n.toArray⟩, .int .i64 o.a, .int .i64 o.b] 41) (({ X with drawn := X.drawn + 1 } : World)) := ⟨Blk.cell (AP.p HAPX.out) 0, HBXX.out⟩
  refine lyp F0 rfl HCC rfl (by omega) (wanted_none rfl) (v := Value.pointer (some ⟨pb, 0, none⟩)) (fun wr hwr => by simp only [execOp, (F0.eval 0 (by omega)).trans (show _ = Value.pointer (some ⟨pb, 0, none⟩) from by simp [upd, e0, e3])]; first | rfl | simp [go_sem]) fun F1 => ?_
  refine lyp F1 rfl HCC rfl (by omega) (wanted_none rfl) (v := Value.pointer (some ⟨pb, 0, none⟩)) (fun wr hwr => by simp only [execOp, (F1.eval 53 (by omega)).trans (show _ = Value.pointer (some ⟨pb, 0, none⟩) from by simp [upd, e0, e3])]; simp [go_sem]) fun F2 => ?_
  refine lyp F2 rfl HCC rfl (by omega) (wanted_none rfl) (v := Value.pointer (some ⟨pb, 0, none⟩)) (fun wr hwr => by simp only [execOp, (F2.eval 54 (by omega)).trans (show _ = Value.pointer (some ⟨pb, 0, none⟩) from by simp [upd, e0, e3])]; simp [go_sem]) fun F3 => ?_
  refine lyp F3 rfl HCC rfl (by omega) (wanted_none rfl) (v := Value.pointer (some ⟨hb, 0, none⟩)) (fun wr hwr => by simp only [execOp, (F3.eval 55 (by omega)).trans (show _ = Value.pointer (some ⟨pb, 0, none⟩) from by simp [upd, e0, e3])]; simp [go_sem, hwr.1]) fun F4 => ?_
  refine lyp F4 rfl HCC rfl (by omega) (wanted_none rfl) (v := Value.pointer (some ⟨bx, 2, none⟩)) (fun wr hwr => by simp only [execOp, (F4.eval 3 (by omega)).trans (show _ = Value.pointer (some ⟨bx, 0, none⟩) from by simp [upd, e0, e3])]; simp [go_sem]) fun F5 => ?_
  refine lyp F5 rfl HCC rfl (by omega) (wanted_none rfl) (v := Value.agg #[.int .i64 c.1, .int .i64 c.2]) (fun wr hwr => by simp only [execOp, (F5.eval 57 (by omega)).trans (show _ = Value.pointer (some ⟨bx, 2, none⟩) from by simp [upd, e0, e3])]; simp [go_sem, show wr.cell? ⟨bx, 2, none⟩ = some (.int .i64 c.1) from hwr.2.cell 2, show wr.cell? ⟨bx, 3, none⟩ = some (.int .i64 c.2) from hwr.2.cell 3]) fun F6 => ?_
  refine lyp F6 rfl HCC rfl (by omega) (wanted_none rfl) (v := Value.pointer (some ⟨bx, 4, none⟩)) (fun wr hwr => by simp only [execOp, (F6.eval 3 (by omega)).trans (show _ = Value.pointer (some ⟨bx, 0, none⟩) from by simp [upd, e0, e3])]; simp [go_sem]) fun F7 => ?_
  refine lyp F7 rfl HCC rfl (by omega) (wanted_none rfl) (v := Value.agg #[.int .i64 o.k, .string ⟨o.n.toArray⟩, .int .i64 o.a, .int .i64 o.b]) (fun wr hwr => by simp only [execOp, (F7.eval 59 (by omega)).trans (show _ = Value.pointer (some ⟨bx, 4, none⟩) from by simp [upd, e0, e3])]; simp [go_sem, show wr.cell? ⟨bx, 4, none⟩ = some (.int .i64 o.k) from hwr.2.cell 4, show wr.cell? ⟨bx, 5, none⟩ = some (.string ⟨o.n.toArray⟩) from hwr.2.cell 5, show wr.cell? ⟨bx, 6, none⟩ = some (.int .i64 o.a) from hwr.2.cell 6, show wr.cell? ⟨bx, 7, none⟩ = some (.int .i64 o.b) from hwr.2.cell 7]) fun F8 => ?_
  refine lcp F8 rfl HCC rfl (by omega) (wanted_none rfl) (g := 19) (args := #[Value.pointer (some ⟨hb, 0, none⟩), Value.agg #[.int .i64 c.1, .int .i64 c.2], Value.agg #[.int .i64 o.k, .string ⟨o.n.toArray⟩, .int .i64 o.a, .int .i64 o.b]]) (by simp only [execOp, resolve, invoke, List.map_toArray, List.map_cons, List.map_nil, (F8.eval 56 (by omega)).trans (show _ = Value.pointer (some ⟨hb, 0, none⟩) from by simp [upd, e0, e3]), (F8.eval 58 (by omega)).trans (show _ = Value.agg #[.int .i64 c.1, .int .i64 c.2] from by simp [upd, e0, e3]), (F8.eval 60 (by omega)).trans (show _ = Value.agg #[.int .i64 o.k, .string ⟨o.n.toArray⟩, .int .i64 o.a, .int .i64 o.b] from by simp [upd, e0, e3])]; simp [go_sem, Act.eval]) (HM1.out (({ X with drawn := X.drawn + 1 } : World)) (AP.t HAPX.out |>.more (Below.drew (Below.refl _ _)))) ?_
  rintro e w2 ⟨rfl, hT2, hc2⟩
  refine ⟨_, rfl, fun F9 => ?_⟩
  have hA2 := (HAPX.out.more (Below.drew (Below.refl X.heap.size X))).setW hT2 hc2
  have hx2 : Blk w2 bx _ 41 := hc2.blk (show Blk (({ X with drawn := X.drawn + 1 } : World)) bx _ 41 from HBXX.out) (HAPX.out.t.wm.ne_b HBXX.out)
  have HC2 : (fun wz => wz.cell? ⟨pb, 0, none⟩ = some (.pointer (some ⟨hb, 0, none⟩)) ∧ Blk wz bx #[.int .i64 3, .string ⟨n.toArray⟩, .int .i64 c.1, .int .i64 c.2, .int .i64 o.k, .string ⟨o.n.toArray⟩, .int .i64 o.a, .int .i64 o.b] 41) w2 := ⟨Blk.cell hA2.1.p 0, hx2⟩
  refine lyp F9 rfl HC2 rfl (by omega) (wanted_none rfl) (v := Value.int .i64 cd) (fun wr hwr => by simp only [execOp, (F9.eval 61 (by omega)).trans (show _ = Value.int .i64 cd from by simp [upd, e0, e3])]; first | rfl | simp [go_sem]) fun F10 => ?_
  refine ⟨fun _ => HC2, ?_⟩
  refine hK _ _ ?_
  clear F0 F1 F2 F3 F4 F5 F6 F7 F8 F9 F10 e0 e3 
  simp only [Act.put, List.setIfInBounds_toArray, List.set_cons_succ, List.set_cons_zero]

  have HAPw2 : Hid (AP S0 pb hb mh mw B rb me rep per (KNof rep KL) W2l KL WT mk lt wt lc wc w2) := hA2.1
  have HBXw2 : Hid (Blk w2 bx #[.int .i64 3, .string ⟨n.toArray⟩, .int .i64 c.1, .int .i64 c.2, .int .i64 o.k, .string ⟨o.n.toArray⟩, .int .i64 o.a, .int .i64 o.b] 41) := hx2
  have HS2 : Hid (BK S0 w w2) := (HS0.out.trans (BK.dr S0 X)).trans hA2.2
  clear hA2 hx2 HC2 hT2 hc2 b0
  obtain ⟨kl, wl, hr3⟩ := HAPw2.out.r
  go_wp2_with fail
  rename_i K hK
  try rw [show ∀ a : Act, a.put none undef = a from fun _ => rfl]
  refine wp_region_mix (fun wz => wz.cell? ⟨pb, 1, none⟩ = some (.pointer (some ⟨rb, 0, none⟩)) ∧ Blk wz bx #[.int .i64 3, .string ⟨n.toArray⟩, .int .i64 c.1, .int .i64 c.2, .int .i64 o.k, .string ⟨o.n.toArray⟩, .int .i64 o.a, .int .i64 o.b] 41) (fun i => i == 1 || i == 10 || i == 99) 99 (by kernel_rfl) rfl (by kernel_rfl) (by kernel_rfl) (by kernel_rfl) ?_
  refine withFrP (N := 129) rfl ?_
  intro f0 F0 hff
  have e0 : f0 0 = Value.pointer (some ⟨pb, 0, none⟩) := hff 0
  have e3 : f0 3 = Value.pointer (some ⟨bx, 0, none⟩) := hff 3
  have e7 : f0 7 = Value.int .i64 cd := hff 7
  clear hff
  have HCC : (fun wz => wz.cell? ⟨pb, 1, none⟩ = some (.pointer (some ⟨rb, 0, none⟩)) ∧ Blk wz bx #[.int .i64 3, .string ⟨n.toArray⟩, .int .i64 c.1, .int .i64 c.2, .int .i64 o.k, .string ⟨o.n.toArray⟩, .int .i64 o.a, .int .i64 o.b] 41) (({ w2 with drawn := w2.drawn + 1 } : World)) := ⟨Blk.cell (AP.p HAPw2.out) 1, HBXw2.out⟩
  refine lyp F0 rfl HCC rfl (by omega) (wanted_none rfl) (v := Value.int .i64 cd) (fun wr hwr => by simp only [execOp, (F0.eval 7 (by omega)).trans (show _ = Value.int .i64 cd from by simp [upd, e0, e3, e7])]; first | rfl | simp [go_sem]) fun Fy1 => ?_
  refine lcp Fy1 rfl HCC rfl (by omega) (wanted_none rfl) (g := 17) (args := #[Value.int .i64 cd]) (by simp only [execOp, resolve, invoke, List.map_toArray, List.map_cons, List.map_nil, (Fy1.eval 62 (by omega)).trans (show _ = Value.int .i64 cd from by simp [upd, e0, e3, e7])]; simp [go_sem, Act.eval]) (num_any _ (({ w2 with drawn := w2.drawn + 1 } : World))) ?_
  rintro e w3 ⟨rfl, hw3⟩
  subst hw3
  refine ⟨_, rfl, fun Fy2 => ?_⟩
  refine lyp Fy2 rfl HCC rfl (by omega) (wanted_none rfl) (v := Value.pointer (some ⟨pb, 0, none⟩)) (fun wr hwr => by simp only [execOp, (Fy2.eval 0 (by omega)).trans (show _ = Value.pointer (some ⟨pb, 0, none⟩) from by simp [upd, e0, e3, e7])]; first | rfl | simp [go_sem]) fun Fy3 => ?_
  refine lyp Fy3 rfl HCC rfl (by omega) (wanted_none rfl) (v := Value.pointer (some ⟨pb, 0, none⟩)) (fun wr hwr => by simp only [execOp, (Fy3.eval 64 (by omega)).trans (show _ = Value.pointer (some ⟨pb, 0, none⟩) from by simp [upd, e0, e3, e7])]; simp [go_sem]) fun Fy4 => ?_
  refine lyp Fy4 rfl HCC rfl (by omega) (wanted_none rfl) (v := Value.pointer (some ⟨pb, 1, none⟩)) (fun wr hwr => by simp only [execOp, (Fy4.eval 65 (by omega)).trans (show _ = Value.pointer (some ⟨pb, 0, none⟩) from by simp [upd, e0, e3, e7])]; simp [go_sem]) fun Fy5 => ?_
  refine lyp Fy5 rfl HCC rfl (by omega) (wanted_none rfl) (v := Value.pointer (some ⟨rb, 0, none⟩)) (fun wr hwr => by simp only [execOp, (Fy5.eval 66 (by omega)).trans (show _ = Value.pointer (some ⟨pb, 1, none⟩) from by simp [upd, e0, e3, e7])]; simp [go_sem, hwr.1]) fun Fy6 => ?_
  refine lyp Fy6 rfl HCC rfl (by omega) (wanted_none rfl) (v := Value.pointer (some ⟨bx, 2, none⟩)) (fun wr hwr => by simp only [execOp, (Fy6.eval 3 (by omega)).trans (show _ = Value.pointer (some ⟨bx, 0, none⟩) from by simp [upd, e0, e3, e7])]; simp [go_sem]) fun Fy7 => ?_
  refine lyp Fy7 rfl HCC rfl (by omega) (wanted_none rfl) (v := Value.agg #[.int .i64 c.1, .int .i64 c.2]) (fun wr hwr => by simp only [execOp, (Fy7.eval 68 (by omega)).trans (show _ = Value.pointer (some ⟨bx, 2, none⟩) from by simp [upd, e0, e3, e7])]; simp [go_sem, show wr.cell? ⟨bx, 2, none⟩ = some (.int .i64 c.1) from hwr.2.cell 2, show wr.cell? ⟨bx, 3, none⟩ = some (.int .i64 c.2) from hwr.2.cell 3]) fun Fy8 => ?_
  refine lyp Fy8 rfl HCC rfl (by omega) (wanted_none rfl) (v := Value.pointer (some ⟨bx, 4, none⟩)) (fun wr hwr => by simp only [execOp, (Fy8.eval 3 (by omega)).trans (show _ = Value.pointer (some ⟨bx, 0, none⟩) from by simp [upd, e0, e3, e7])]; simp [go_sem]) fun Fy9 => ?_
  refine lyp Fy9 rfl HCC rfl (by omega) (wanted_none rfl) (v := Value.agg #[.int .i64 o.k, .string ⟨o.n.toArray⟩, .int .i64 o.a, .int .i64 o.b]) (fun wr hwr => by simp only [execOp, (Fy9.eval 70 (by omega)).trans (show _ = Value.pointer (some ⟨bx, 4, none⟩) from by simp [upd, e0, e3, e7])]; simp [go_sem, show wr.cell? ⟨bx, 4, none⟩ = some (.int .i64 o.k) from hwr.2.cell 4, show wr.cell? ⟨bx, 5, none⟩ = some (.string ⟨o.n.toArray⟩) from hwr.2.cell 5, show wr.cell? ⟨bx, 6, none⟩ = some (.int .i64 o.a) from hwr.2.cell 6, show wr.cell? ⟨bx, 7, none⟩ = some (.int .i64 o.b) from hwr.2.cell 7]) fun Fy10 => ?_
  refine lcp Fy10 rfl HCC rfl (by omega) (wanted_none rfl) (g := 56) (args := #[Value.pointer (some ⟨rb, 0, none⟩), Value.agg #[.int .i64 c.1, .int .i64 c.2], Value.agg #[.int .i64 o.k, .string ⟨o.n.toArray⟩, .int .i64 o.a, .int .i64 o.b]]) (by simp only [execOp, resolve, invoke, List.map_toArray, List.map_cons, List.map_nil, (Fy10.eval 67 (by omega)).trans (show _ = Value.pointer (some ⟨rb, 0, none⟩) from by simp [upd, e0, e3, e7]), (Fy10.eval 69 (by omega)).trans (show _ = Value.agg #[.int .i64 c.1, .int .i64 c.2] from by simp [upd, e0, e3, e7]), (Fy10.eval 71 (by omega)).trans (show _ = Value.agg #[.int .i64 o.k, .string ⟨o.n.toArray⟩, .int .i64 o.a, .int .i64 o.b] from by simp [upd, e0, e3, e7])]; simp [go_sem, Act.eval]) (HM2.out (({ w2 with drawn := w2.drawn + 1 } : World)) (hr3.more (Below.drew (Below.refl _ _)))) ?_
  rintro e w4 ⟨rfl, hp4⟩
  refine ⟨_, rfl, fun Fy11 => ?_⟩
  have hA4 := (HAPw2.out.more (Below.drew (Below.refl w2.heap.size w2))).setR (hr3.more (Below.drew (Below.refl _ _))) hp4
  have hx4 : Blk w4 bx _ 41 := hp4.1.blk (show Blk (({ w2 with drawn := w2.drawn + 1 } : World)) bx _ 41 from HBXw2.out) (RA.nb (hr3.more (Below.drew (Below.refl _ _))) (show Blk (({ w2 with drawn := w2.drawn + 1 } : World)) bx _ 41 from HBXw2.out) (by decide) (by decide) (by decide))
  have HC4 : (fun wz => wz.cell? ⟨pb, 1, none⟩ = some (.pointer (some ⟨rb, 0, none⟩)) ∧ Blk wz bx #[.int .i64 3, .string ⟨n.toArray⟩, .int .i64 c.1, .int .i64 c.2, .int .i64 o.k, .string ⟨o.n.toArray⟩, .int .i64 o.a, .int .i64 o.b] 41) w4 := ⟨Blk.cell hA4.1.p 1, hx4⟩
  refine lyp Fy11 rfl HC4 rfl (by omega) (wanted_none rfl) (v := Value.bool true) (fun wr hwr => by simp only [execOp, (Fy11.eval 63 (by omega)).trans (show _ = Value.int .i64 cd from by simp [upd, e0, e3, e7]), (Fy11.eval 72 (by omega)).trans (show _ = Value.int .i64 cd from by simp [upd, e0, e3, e7])]; simp [go_sem, Act.eval]) fun Fy12 => ?_
  refine lyp Fy12 rfl HC4 rfl (by omega) (wanted_none rfl) (v := Value.bool true) (fun wr hwr => by simp only [execOp, (Fy12.eval 73 (by omega)).trans (show _ = Value.bool true from by simp [upd, e0, e3, e7])]; first | rfl | simp [go_sem]) fun Fy13 => ?_
  refine ⟨fun _ => HC4, ?_⟩
  refine hK _ _ ?_
  clear F0 Fy1 Fy2 Fy3 Fy4 Fy5 Fy6 Fy7 Fy8 Fy9 Fy10 Fy11 Fy12 Fy13 e0 e3 e7 
  simp only [Act.put, List.setIfInBounds_toArray, List.set_cons_succ, List.set_cons_zero]

  have HF : Hid _ := hA4.1
  have HFB : Hid (BK S0 w w4) := (HS2.out.trans (BK.dr S0 w2)).trans hA4.2
  clear hA4 hx4 HC4 hp4
  go_wp2_with fail
  go_ret
  exact ⟨rfl, HF.out, HFB.out⟩
end Go.Proofs.Ytbjlaloofpdbfaa
