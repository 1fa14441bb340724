import Derived.Test.YtbjlaloofpdbfaaP6
import Derived.Test.YtbjlaloofpdbfaaAst
namespace Go.Proofs.Ytbjlaloofpdbfaa
open Go.RowKit Go.PlainAid
set_option linter.unusedVariables false
set_option linter.unusedSimpArgs false
/-- Both tables and their pair, whatever else the pair holds. -/
structure AQ (S0 pb hb mh mw B rb : Nat) (me rep per : Int) (KN : List (List UInt8 × Int)) (WT : List ((Int × Int) × OpA)) (KL : List (List UInt8)) (WL : List ((Int × Int) × OpA)) (C : Array Value) (O : Nat → Prop) (H : World) (es : List (Ent S0)) (w : World) : Prop where
  p : Blk w pb C 67
  k0 : C[0]? = some (.pointer (some ⟨hb, 0, none⟩))
  k1 : C[1]? = some (.pointer (some ⟨rb, 0, none⟩))
  t : Tb hb mh mw me rep per KN WT w
  r : ∃ kl wl, RT B rb kl wl me rep per KL WL w ∧ (∀ k, RA rb kl wl k → ¬ has es k) ∧ (∀ k, RA rb kl wl k → O k ∨ H.heap.size ≤ k)
  h : Held es w
  chg : Chg O H w
  om : O mh ∧ O mw
  lo : S0 ≤ pb ∧ S0 ≤ mh ∧ S0 ≤ mw ∧ S0 ≤ B
  low : S0 ≤ w.heap.size ∧ H.heap.size ≤ w.heap.size
section
variable {S0 pb hb mh mw B rb : Nat} {me rep per : Int} {KN KN' : List (List UInt8 × Int)} {KL KL' : List (List UInt8)} {WT WL WT' WL' : List ((Int × Int) × OpA)} {C : Array Value} {O : Nat → Prop} {H : World} {es : List (Ent S0)} {w w' : World}
theorem AQ.q0 (h : AQ S0 pb hb mh mw B rb me rep per KN WT KL WL C O H es w) : w.cell? ⟨pb, 0, none⟩ = some (.pointer (some ⟨hb, 0, none⟩)) := (h.p.cell 0).trans h.k0
theorem AQ.q1 (h : AQ S0 pb hb mh mw B rb me rep per KN WT KL WL C O H es w) : w.cell? ⟨pb, 1, none⟩ = some (.pointer (some ⟨rb, 0, none⟩)) := (h.p.cell 1).trans h.k1
theorem AQ.more (h : AQ S0 pb hb mh mw B rb me rep per KN WT KL WL C O H es w) (hb2 : Below w.heap.size w w') : AQ S0 pb hb mh mw B rb me rep per KN WT KL WL C O H es w' := by
  obtain ⟨kl, wl, hr, hz, hn⟩ := h.r
  exact ⟨Blk.below h.p hb2 (Blk.lt h.p), h.k0, h.k1, h.t.more hb2, ⟨kl, wl, hr.more hb2, hz, hn⟩, h.h.more hb2, h.chg.trans (Chg.ofBelow (fun _ => False) hb2) (fun _ _ e => e.elim), h.om, h.lo, Nat.le_trans h.low.1 hb2.size, Nat.le_trans h.low.2 hb2.size⟩
theorem AQ.setH (h : AQ S0 pb hb mh mw B rb me rep per KN WT KL WL C O H es w) (hT : Tb hb mh mw me rep per KN' WT w') (hc : Chg (fun k => k = mh) w w') : AQ S0 pb hb mh mw B rb me rep per KN' WT KL WL C O H es w' ∧ BK S0 w w' := by
  obtain ⟨kl, wl, hr, hz, hn⟩ := h.r
  refine ⟨⟨hc.blk h.p (h.t.hm.ne_b h.p), h.k0, h.k1, hT, ⟨kl, wl, hr.keep hc (fun b e hb => ?_), hz, hn⟩, h.h.chg hc (fun k hk e => ?_), h.chg.trans hc (fun k _ e => by rw [e]; exact h.om.1), h.om, h.lo, Nat.le_trans h.low.1 hc.size, Nat.le_trans h.low.2 hc.size⟩, ⟨hc.below h.low.1 (fun k e => by rw [e]; exact h.lo.2.1), fun b D hB => hc.blk hB (h.t.hm.ne_b hB)⟩⟩
  · rcases e with e | e | e
    · exact h.t.hm.ne_b hr.blk (e ▸ hb)
    · obtain ⟨cu, hcu⟩ := ownsRow_type hr.kr e
      exact h.t.hm.ne_b (show Blk w b cu 9 from hcu) hb
    · obtain ⟨cu, hcu⟩ := ownsRow_type hr.wr e
      exact h.t.hm.ne_b (show Blk w b cu 108 from hcu) hb
  · obtain ⟨_, _, D, T, hB, _⟩ := h.h.typ hk
    exact h.t.hm.ne_b hB e
theorem AQ.setW (h : AQ S0 pb hb mh mw B rb me rep per KN WT KL WL C O H es w) (hT : Tb hb mh mw me rep per KN WT' w') (hc : Chg (fun k => k = mw) w w') : AQ S0 pb hb mh mw B rb me rep per KN WT' KL WL C O H es w' ∧ BK S0 w w' := by
  obtain ⟨kl, wl, hr, hz, hn⟩ := h.r
  refine ⟨⟨hc.blk h.p (h.t.wm.ne_b h.p), h.k0, h.k1, hT, ⟨kl, wl, hr.keep hc (fun b e hb => ?_), hz, hn⟩, h.h.chg hc (fun k hk e => ?_), h.chg.trans hc (fun k _ e => by rw [e]; exact h.om.2), h.om, h.lo, Nat.le_trans h.low.1 hc.size, Nat.le_trans h.low.2 hc.size⟩, ⟨hc.below h.low.1 (fun k e => by rw [e]; exact h.lo.2.2.1), fun b D hB => hc.blk hB (h.t.wm.ne_b hB)⟩⟩
  · rcases e with e | e | e
    · exact h.t.wm.ne_b hr.blk (e ▸ hb)
    · obtain ⟨cu, hcu⟩ := ownsRow_type hr.kr e
      exact h.t.wm.ne_b (show Blk w b cu 9 from hcu) hb
    · obtain ⟨cu, hcu⟩ := ownsRow_type hr.wr e
      exact h.t.wm.ne_b (show Blk w b cu 108 from hcu) hb
  · obtain ⟨_, _, D, T, hB, _⟩ := h.h.typ hk
    exact h.t.wm.ne_b hB e
theorem AQ.setR (h : AQ S0 pb hb mh mw B rb me rep per KN WT KL WL C O H es w) {kl wl : Value} (hr : RT B rb kl wl me rep per KL WL w) (hz : ∀ k, RA rb kl wl k → ¬ has es k) (hn : ∀ k, RA rb kl wl k → O k ∨ H.heap.size ≤ k) (hp : RPost B rb kl wl me rep per KL' WL' w w') : AQ S0 pb hb mh mw B rb me rep per KN WT KL' WL' C O H es w' ∧ BK S0 w w' := by
  obtain ⟨hc, kl', wl', hR, hnew⟩ := hp
  have nm : ∀ (b : Nat), (∀ (D : Array Value) (U : TypeId), ¬ Blk w b D U) → ¬ RA rb kl wl b := fun b hn e => by
    obtain ⟨D, U, hB, _⟩ := RA.blk hr e
    exact hn D U hB
  refine ⟨⟨hc.blk h.p (RA.nb hr h.p (by decide) (by decide) (by decide)), h.k0, h.k1, h.t.keep hc (RA.nb hr h.t.blk (by decide) (by decide) (by decide)) (nm _ (fun D U hB => h.t.hm.ne_b hB rfl)) (nm _ (fun D U hB => h.t.wm.ne_b hB rfl)), ⟨kl', wl', hR, fun k hk hx => ?_, fun k hk => ?_⟩, h.h.chg hc (fun k hk e => hz k e hk), h.chg.trans hc (fun k hk e => ?_), h.om, h.lo, Nat.le_trans h.low.1 hc.size, Nat.le_trans h.low.2 hc.size⟩, ⟨hc.below h.low.1 (fun k e => Nat.le_trans h.lo.2.2.2 ?_), fun b D hB => hc.blk hB (RA.nb hr hB (by decide) (by decide) (by decide))⟩⟩
  · rcases hnew k hk with h1 | h1
    · exact hz k h1 hx
    · have := (h.h.typ hx).2.1
      omega
  · rcases hnew k hk with h1 | h1
    · exact hn k h1
    · exact Or.inr (Nat.le_trans h.low.2 h1)
  · rcases hn k e with h1 | h1
    · exact h1
    · omega
  · rcases e with e | e | e
    · rw [e]; exact hr.lo
    · exact (ownsRow_lt hr.kr e).1
    · exact (ownsRow_lt hr.wr e).1
theorem AQ.setO (h : AQ S0 pb hb mh mw B rb me rep per KN WT KL WL C O H es w) {bx : Nat} {D : Array Value} (hB : Blk w bx D 39) (hlo : S0 ≤ bx ∧ H.heap.size ≤ bx) (hc : Chg (fun k => k = bx) w w') : AQ S0 pb hb mh mw B rb me rep per KN WT KL WL C O H es w' ∧ BK S0 w w' := by
  obtain ⟨kl, wl, hr, hz, hn⟩ := h.r
  refine ⟨⟨hc.blk h.p (h.p.ne_t hB (by decide)), h.k0, h.k1, h.t.keep hc (h.t.blk.ne_t hB (by decide)) (fun e => h.t.hm.ne_b hB e.symm) (fun e => h.t.wm.ne_b hB e.symm), ⟨kl, wl, hr.keep hc (fun b e hb => RA.nb hr hB (by decide) (by decide) (by decide) (hb ▸ e)), hz, hn⟩, h.h.chg hc (fun k hk e => ?_), h.chg.trans hc (fun k hk e => by subst e; omega), h.om, h.lo, Nat.le_trans h.low.1 hc.size, Nat.le_trans h.low.2 hc.size⟩, ⟨hc.below h.low.1 (fun k e => by rw [e]; exact hlo.1), fun b D hB2 => hc.blk hB2 (hB2.ne_t hB (by decide))⟩⟩
  obtain ⟨_, _, D2, T, hB2, hT⟩ := h.h.typ hk
  refine Blk.ne_t hB2 hB ?_ e
  rcases hT with rfl | rfl | rfl | rfl | rfl <;> decide
end
set_option maxRecDepth 100000 in
set_option maxHeartbeats 1600000 in
theorem qcM {S0 pb hb mh mw B rb : Nat} {me rep per : Int} {KN : List (List UInt8 × Int)} {KL : List (List UInt8)} {WT WL : List ((Int × Int) × OpA)} {C : Array Value} {O : Nat → Prop} {H : World} {es : List (Ent S0)} (n : List UInt8) (c : Int × Int) (o : OpA) (w : World) (h : AQ S0 pb hb mh mw B rb me rep per (KNof rep KL) WT KL WL C O H es w) (hL : KL.length ≤ 100000) (hnl : ∀ x ∈ KL, x.length ≤ 140737488355328) (hl : n.length ≤ 140737488355328) (hrep : -9223372036854775808 ≤ rep ∧ rep ≤ 9223372036854775807) :
    Calls Try.prog 43 #[.pointer (some ⟨pb, 0, none⟩), .agg #[.int .i64 1, .string ⟨n.toArray⟩, .int .i64 c.1, .int .i64 c.2, .int .i64 o.k, .string ⟨o.n.toArray⟩, .int .i64 o.a, .int .i64 o.b]] w fun e w' => e = .returned (.bool true) ∧ AQ S0 pb hb mh mw B rb me rep per (KNof rep (rmn me rep per KL n)) WT (rmn me rep per KL n) WL C O H es w' ∧ BK S0 w w' := by
  have hKL : (KNof rep KL).length ≤ 100000 := by unfold KNof; simpa using hL
  obtain ⟨hs1, hs2⟩ := make_same me rep per KL n
  have HM1 : Hid (∀ w', Tb hb mh mw me rep per (KNof rep KL) WT w' → Calls Try.prog 24 #[.pointer (some ⟨hb, 0, none⟩), .string ⟨n.toArray⟩] w' fun q w'' => q = .returned (Value.int .i64 (rmc me rep per KL n)) ∧ Tb hb mh mw me rep per (KNof rep (rmn me rep per KL n)) WT w'' ∧ Chg (fun k => k = mh) w' w'') := fun w' hT => by
    have := make_any n w' hT hKL hl hrep
    rw [hs1, hs2] at this
    exact this
  have HM2 : Hid (∀ {kl wl : Value} w', RT B rb kl wl me rep per KL WL w' → Calls Try.prog 54 #[.pointer (some ⟨rb, 0, none⟩), .string ⟨n.toArray⟩] w' fun q w'' => q = .returned (Value.int .i64 (rmc me rep per KL n)) ∧ RPost B rb kl wl me rep per (rmn me rep per KL n) WL w' w'') := fun w' hR => rmake_any n w' hR hL hnl hl hrep
  obtain ⟨X, hX⟩ : ∃ X, X = w.alloc (.cells #[.int .i64 1, .string ⟨n.toArray⟩, .int .i64 c.1, .int .i64 c.2, .int .i64 o.k, .string ⟨o.n.toArray⟩, .int .i64 o.a, .int .i64 o.b] 41) := ⟨_, rfl⟩
  have hbX : Below w.heap.size w X := by rw [hX]; exact (Below.refl _ _).alloc (Nat.le_refl _) _
  obtain ⟨bx, hbx⟩ : ∃ bx, bx = w.heap.size := ⟨_, rfl⟩
  have HBXX : Hid (Blk X bx #[.int .i64 1, .string ⟨n.toArray⟩, .int .i64 c.1, .int .i64 c.2, .int .i64 o.k, .string ⟨o.n.toArray⟩, .int .i64 o.a, .int .i64 o.b] 41) := show Blk X bx #[.int .i64 1, .string ⟨n.toArray⟩, .int .i64 c.1, .int .i64 c.2, .int .i64 o.k, .string ⟨o.n.toArray⟩, .int .i64 o.a, .int .i64 o.b] 41 from by rw [hX, hbx]; exact heap_alloc_new w _
  have HAPX : Hid (AQ S0 pb hb mh mw B rb me rep per (KNof rep KL) WT KL WL C O H es X) := h.more hbX
  have HS0 : Hid (BK S0 w X) := BK.of hbX h.low.1
  have b0 : X.cell? ⟨bx, 0, none⟩ = some (.int .i64 1) := HBXX.out.cell 0
  generalize rmn me rep per KL n = KL2 at *
  generalize (rmc me rep per KL n) = cd at *
  clear h hL hnl hl hrep hKL hs1 hs2 hbX
  go_enter Try.func43, Try.ntmps43
  go_upto_region 3 with fail
  rw [← hX, ← hbx]
  clear hX hbx
  go_wp2_with fail
  rename_i K hK
  try rw [show ∀ a : Act, a.put none undef = a from fun _ => rfl]
  refine wp_region_mix (fun wz => wz.cell? ⟨pb, 0, none⟩ = some (.pointer (some ⟨hb, 0, none⟩)) ∧ wz.cell? ⟨bx, 1, none⟩ = some (.string ⟨n.toArray⟩)) (fun i => i == 6 || i == 99) 99 (by kernel_rfl) rfl (by kernel_rfl) (by kernel_rfl) (by kernel_rfl) ?_
  refine withFrP (N := 129) rfl ?_
  intro f0 F0 hff
  have e0 : f0 0 = Value.pointer (some ⟨pb, 0, none⟩) := hff 0
  have e3 : f0 3 = Value.pointer (some ⟨bx, 0, none⟩) := hff 3
  clear hff
  have HCC : (fun wz => wz.cell? ⟨pb, 0, none⟩ = some (.pointer (some ⟨hb, 0, none⟩)) ∧ wz.cell? ⟨bx, 1, none⟩ = some (.string ⟨n.toArray⟩)) (({ X with drawn := X.drawn + 1 } : World)) := ⟨(AQ.q0 HAPX.out :), Blk.cell HBXX.out 1⟩
  refine lyp F0 rfl HCC rfl (by omega) (wanted_none rfl) (v := Value.pointer (some ⟨pb, 0, none⟩)) (fun wr hwr => by simp only [execOp, (F0.eval 0 (by omega)).trans (show _ = Value.pointer (some ⟨pb, 0, none⟩) from by simp [upd, e0, e3])]; first | rfl | simp [go_sem]) fun F1 => ?_
  refine lyp F1 rfl HCC rfl (by omega) (wanted_none rfl) (v := Value.pointer (some ⟨pb, 0, none⟩)) (fun wr hwr => by simp only [execOp, (F1.eval 16 (by omega)).trans (show _ = Value.pointer (some ⟨pb, 0, none⟩) from by simp [upd, e0, e3])]; simp [go_sem]) fun F2 => ?_
  refine lyp F2 rfl HCC rfl (by omega) (wanted_none rfl) (v := Value.pointer (some ⟨pb, 0, none⟩)) (fun wr hwr => by simp only [execOp, (F2.eval 17 (by omega)).trans (show _ = Value.pointer (some ⟨pb, 0, none⟩) from by simp [upd, e0, e3])]; simp [go_sem]) fun F3 => ?_
  refine lyp F3 rfl HCC rfl (by omega) (wanted_none rfl) (v := Value.pointer (some ⟨hb, 0, none⟩)) (fun wr hwr => by simp only [execOp, (F3.eval 18 (by omega)).trans (show _ = Value.pointer (some ⟨pb, 0, none⟩) from by simp [upd, e0, e3])]; simp [go_sem, hwr.1]) fun F4 => ?_
  refine lyp F4 rfl HCC rfl (by omega) (wanted_none rfl) (v := Value.pointer (some ⟨bx, 1, none⟩)) (fun wr hwr => by simp only [execOp, (F4.eval 3 (by omega)).trans (show _ = Value.pointer (some ⟨bx, 0, none⟩) from by simp [upd, e0, e3])]; simp [go_sem]) fun F5 => ?_
  refine lyp F5 rfl HCC rfl (by omega) (wanted_none rfl) (v := Value.string ⟨n.toArray⟩) (fun wr hwr => by simp only [execOp, (F5.eval 20 (by omega)).trans (show _ = Value.pointer (some ⟨bx, 1, none⟩) from by simp [upd, e0, e3])]; simp [go_sem, hwr.2]) fun F6 => ?_
  refine lcp F6 rfl HCC rfl (by omega) (wanted_none rfl) (g := 24) (args := #[Value.pointer (some ⟨hb, 0, none⟩), Value.string ⟨n.toArray⟩]) (by simp only [execOp, resolve, invoke, List.map_toArray, List.map_cons, List.map_nil, (F6.eval 19 (by omega)).trans (show _ = Value.pointer (some ⟨hb, 0, none⟩) from by simp [upd, e0, e3]), (F6.eval 21 (by omega)).trans (show _ = Value.string ⟨n.toArray⟩ from by simp [upd, e0, e3])]; simp [go_sem, Act.eval]) (HM1.out (({ X with drawn := X.drawn + 1 } : World)) (AQ.t HAPX.out |>.more (Below.drew (Below.refl _ _)))) ?_
  rintro e w2 ⟨rfl, hT2, hc2⟩
  refine ⟨_, rfl, fun F7 => ?_⟩
  have hA2 := (HAPX.out.more (Below.drew (Below.refl X.heap.size X))).setH hT2 hc2
  have hx2 : Blk w2 bx _ 41 := hc2.blk (show Blk (({ X with drawn := X.drawn + 1 } : World)) bx _ 41 from HBXX.out) (HAPX.out.t.hm.ne_b HBXX.out)
  have HC2 : (fun wz => wz.cell? ⟨pb, 0, none⟩ = some (.pointer (some ⟨hb, 0, none⟩)) ∧ wz.cell? ⟨bx, 1, none⟩ = some (.string ⟨n.toArray⟩)) w2 := ⟨(AQ.q0 hA2.1 :), hx2.cell 1⟩
  refine lyp F7 rfl HC2 rfl (by omega) (wanted_none rfl) (v := Value.int .i64 cd) (fun wr hwr => by simp only [execOp, (F7.eval 22 (by omega)).trans (show _ = Value.int .i64 cd from by simp [upd, e0, e3])]; first | rfl | simp [go_sem]) fun F8 => ?_
  refine ⟨fun _ => HC2, ?_⟩
  refine hK _ _ ?_
  clear F0 F1 F2 F3 F4 F5 F6 F7 F8 e0 e3 
  simp only [Act.put, List.setIfInBounds_toArray, List.set_cons_succ, List.set_cons_zero]

  have HAPw2 : Hid (AQ S0 pb hb mh mw B rb me rep per (KNof rep KL2) WT KL WL C O H es w2) := hA2.1
  have HBXw2 : Hid (Blk w2 bx #[.int .i64 1, .string ⟨n.toArray⟩, .int .i64 c.1, .int .i64 c.2, .int .i64 o.k, .string ⟨o.n.toArray⟩, .int .i64 o.a, .int .i64 o.b] 41) := hx2
  have HS2 : Hid (BK S0 w w2) := (HS0.out.trans (BK.dr S0 X)).trans hA2.2
  clear hA2 hx2 HC2 hT2 hc2 b0
  obtain ⟨kl, wl, hr3, hz3, hn3⟩ := HAPw2.out.r
  go_wp2_with fail
  rename_i K hK
  try rw [show ∀ a : Act, a.put none undef = a from fun _ => rfl]
  refine wp_region_mix (fun wz => wz.cell? ⟨pb, 1, none⟩ = some (.pointer (some ⟨rb, 0, none⟩)) ∧ wz.cell? ⟨bx, 1, none⟩ = some (.string ⟨n.toArray⟩)) (fun i => i == 1 || i == 8 || i == 99) 99 (by kernel_rfl) rfl (by kernel_rfl) (by kernel_rfl) (by kernel_rfl) ?_
  refine withFrP (N := 129) rfl ?_
  intro f0 F0 hff
  have e0 : f0 0 = Value.pointer (some ⟨pb, 0, none⟩) := hff 0
  have e3 : f0 3 = Value.pointer (some ⟨bx, 0, none⟩) := hff 3
  have e5 : f0 5 = Value.int .i64 cd := hff 5
  clear hff
  have HCC : (fun wz => wz.cell? ⟨pb, 1, none⟩ = some (.pointer (some ⟨rb, 0, none⟩)) ∧ wz.cell? ⟨bx, 1, none⟩ = some (.string ⟨n.toArray⟩)) (({ w2 with drawn := w2.drawn + 1 } : World)) := ⟨(AQ.q1 HAPw2.out :), Blk.cell HBXw2.out 1⟩
  refine lyp F0 rfl HCC rfl (by omega) (wanted_none rfl) (v := Value.int .i64 cd) (fun wr hwr => by simp only [execOp, (F0.eval 5 (by omega)).trans (show _ = Value.int .i64 cd from by simp [upd, e0, e3, e5])]; first | rfl | simp [go_sem]) fun Fy1 => ?_
  refine lcp Fy1 rfl HCC rfl (by omega) (wanted_none rfl) (g := 17) (args := #[Value.int .i64 cd]) (by simp only [execOp, resolve, invoke, List.map_toArray, List.map_cons, List.map_nil, (Fy1.eval 23 (by omega)).trans (show _ = Value.int .i64 cd from by simp [upd, e0, e3, e5])]; simp [go_sem, Act.eval]) (num_any _ (({ w2 with drawn := w2.drawn + 1 } : World))) ?_
  rintro e w3 ⟨rfl, hw3⟩
  subst hw3
  refine ⟨_, rfl, fun Fy2 => ?_⟩
  refine lyp Fy2 rfl HCC rfl (by omega) (wanted_none rfl) (v := Value.pointer (some ⟨pb, 0, none⟩)) (fun wr hwr => by simp only [execOp, (Fy2.eval 0 (by omega)).trans (show _ = Value.pointer (some ⟨pb, 0, none⟩) from by simp [upd, e0, e3, e5])]; first | rfl | simp [go_sem]) fun Fy3 => ?_
  refine lyp Fy3 rfl HCC rfl (by omega) (wanted_none rfl) (v := Value.pointer (some ⟨pb, 0, none⟩)) (fun wr hwr => by simp only [execOp, (Fy3.eval 25 (by omega)).trans (show _ = Value.pointer (some ⟨pb, 0, none⟩) from by simp [upd, e0, e3, e5])]; simp [go_sem]) fun Fy4 => ?_
  refine lyp Fy4 rfl HCC rfl (by omega) (wanted_none rfl) (v := Value.pointer (some ⟨pb, 1, none⟩)) (fun wr hwr => by simp only [execOp, (Fy4.eval 26 (by omega)).trans (show _ = Value.pointer (some ⟨pb, 0, none⟩) from by simp [upd, e0, e3, e5])]; simp [go_sem]) fun Fy5 => ?_
  refine lyp Fy5 rfl HCC rfl (by omega) (wanted_none rfl) (v := Value.pointer (some ⟨rb, 0, none⟩)) (fun wr hwr => by simp only [execOp, (Fy5.eval 27 (by omega)).trans (show _ = Value.pointer (some ⟨pb, 1, none⟩) from by simp [upd, e0, e3, e5])]; simp [go_sem, hwr.1]) fun Fy6 => ?_
  refine lyp Fy6 rfl HCC rfl (by omega) (wanted_none rfl) (v := Value.pointer (some ⟨bx, 1, none⟩)) (fun wr hwr => by simp only [execOp, (Fy6.eval 3 (by omega)).trans (show _ = Value.pointer (some ⟨bx, 0, none⟩) from by simp [upd, e0, e3, e5])]; simp [go_sem]) fun Fy7 => ?_
  refine lyp Fy7 rfl HCC rfl (by omega) (wanted_none rfl) (v := Value.string ⟨n.toArray⟩) (fun wr hwr => by simp only [execOp, (Fy7.eval 29 (by omega)).trans (show _ = Value.pointer (some ⟨bx, 1, none⟩) from by simp [upd, e0, e3, e5])]; simp [go_sem, hwr.2]) fun Fy8 => ?_
  refine lcp Fy8 rfl HCC rfl (by omega) (wanted_none rfl) (g := 54) (args := #[Value.pointer (some ⟨rb, 0, none⟩), Value.string ⟨n.toArray⟩]) (by simp only [execOp, resolve, invoke, List.map_toArray, List.map_cons, List.map_nil, (Fy8.eval 28 (by omega)).trans (show _ = Value.pointer (some ⟨rb, 0, none⟩) from by simp [upd, e0, e3, e5]), (Fy8.eval 30 (by omega)).trans (show _ = Value.string ⟨n.toArray⟩ from by simp [upd, e0, e3, e5])]; simp [go_sem, Act.eval]) (HM2.out (({ w2 with drawn := w2.drawn + 1 } : World)) (hr3.more (Below.drew (Below.refl _ _)))) ?_
  rintro e w4 ⟨rfl, hp4⟩
  refine ⟨_, rfl, fun Fy9 => ?_⟩
  have hA4 := (HAPw2.out.more (Below.drew (Below.refl w2.heap.size w2))).setR (hr3.more (Below.drew (Below.refl _ _))) hz3 hn3 hp4
  have hx4 : Blk w4 bx _ 41 := hp4.1.blk (show Blk (({ w2 with drawn := w2.drawn + 1 } : World)) bx _ 41 from HBXw2.out) (RA.nb (hr3.more (Below.drew (Below.refl _ _))) (show Blk (({ w2 with drawn := w2.drawn + 1 } : World)) bx _ 41 from HBXw2.out) (by decide) (by decide) (by decide))
  have HC4 : (fun wz => wz.cell? ⟨pb, 1, none⟩ = some (.pointer (some ⟨rb, 0, none⟩)) ∧ wz.cell? ⟨bx, 1, none⟩ = some (.string ⟨n.toArray⟩)) w4 := ⟨(AQ.q1 hA4.1 :), hx4.cell 1⟩
  refine lyp Fy9 rfl HC4 rfl (by omega) (wanted_none rfl) (v := Value.bool true) (fun wr hwr => by simp only [execOp, (Fy9.eval 24 (by omega)).trans (show _ = Value.int .i64 cd from by simp [upd, e0, e3, e5]), (Fy9.eval 31 (by omega)).trans (show _ = Value.int .i64 cd from by simp [upd, e0, e3, e5])]; simp [go_sem, Act.eval]) fun Fy10 => ?_
  refine lyp Fy10 rfl HC4 rfl (by omega) (wanted_none rfl) (v := Value.bool true) (fun wr hwr => by simp only [execOp, (Fy10.eval 32 (by omega)).trans (show _ = Value.bool true from by simp [upd, e0, e3, e5])]; first | rfl | simp [go_sem]) fun Fy11 => ?_
  refine ⟨fun _ => HC4, ?_⟩
  refine hK _ _ ?_
  clear F0 Fy1 Fy2 Fy3 Fy4 Fy5 Fy6 Fy7 Fy8 Fy9 Fy10 Fy11 e0 e3 e5 
  simp only [Act.put, List.setIfInBounds_toArray, List.set_cons_succ, List.set_cons_zero]

  have HF : Hid _ := hA4.1
  have HFB : Hid (BK S0 w w4) := (HS2.out.trans (BK.dr S0 w2)).trans hA4.2
  clear hA4 hx4 HC4 hp4
  go_wp2_with fail
  go_ret
  exact ⟨rfl, HF.out, HFB.out⟩
set_option maxRecDepth 100000 in
set_option maxHeartbeats 1600000 in
theorem qcL {S0 pb hb mh mw B rb : Nat} {me rep per : Int} {KN : List (List UInt8 × Int)} {KL : List (List UInt8)} {WT WL : List ((Int × Int) × OpA)} {C : Array Value} {O : Nat → Prop} {H : World} {es : List (Ent S0)} (n : List UInt8) (c : Int × Int) (o : OpA) (w : World) (h : AQ S0 pb hb mh mw B rb me rep per (KNof rep KL) WT KL WL C O H es w) (hL : KL.length ≤ 100000) (hnl : ∀ x ∈ KL, x.length ≤ 140737488355328) (hl : n.length ≤ 140737488355328) (hrep : -9223372036854775808 ≤ rep ∧ rep ≤ 9223372036854775807) :
    Calls Try.prog 43 #[.pointer (some ⟨pb, 0, none⟩), .agg #[.int .i64 2, .string ⟨n.toArray⟩, .int .i64 c.1, .int .i64 c.2, .int .i64 o.k, .string ⟨o.n.toArray⟩, .int .i64 o.a, .int .i64 o.b]] w fun e w' => e = .returned (.bool true) ∧ AQ S0 pb hb mh mw B rb me rep per (KNof rep (rln me rep per KL n)) WT (rln me rep per KL n) WL C O H es w' ∧ BK S0 w w' := by
  have hKL : (KNof rep KL).length ≤ 100000 := by unfold KNof; simpa using hL
  obtain ⟨hs1, hs2⟩ := learn_same me rep per KL n
  have HM1 : Hid (∀ w', Tb hb mh mw me rep per (KNof rep KL) WT w' → Calls Try.prog 22 #[.pointer (some ⟨hb, 0, none⟩), .string ⟨n.toArray⟩] w' fun q w'' => q = .returned (Value.bool (rlb me rep per KL n)) ∧ Tb hb mh mw me rep per (KNof rep (rln me rep per KL n)) WT w'' ∧ Chg (fun k => k = mh) w' w'') := fun w' hT => by
    have := learn_any n w' hT hKL hl hrep
    rw [hs1, hs2] at this
    exact this
  have HM2 : Hid (∀ {kl wl : Value} w', RT B rb kl wl me rep per KL WL w' → Calls Try.prog 55 #[.pointer (some ⟨rb, 0, none⟩), .string ⟨n.toArray⟩] w' fun q w'' => q = .returned (Value.bool (rlb me rep per KL n)) ∧ RPost B rb kl wl me rep per (rln me rep per KL n) WL w' w'') := fun w' hR => rlearn_any n w' hR hL hnl hl hrep
  obtain ⟨X, hX⟩ : ∃ X, X = w.alloc (.cells #[.int .i64 2, .string ⟨n.toArray⟩, .int .i64 c.1, .int .i64 c.2, .int .i64 o.k, .string ⟨o.n.toArray⟩, .int .i64 o.a, .int .i64 o.b] 41) := ⟨_, rfl⟩
  have hbX : Below w.heap.size w X := by rw [hX]; exact (Below.refl _ _).alloc (Nat.le_refl _) _
  obtain ⟨bx, hbx⟩ : ∃ bx, bx = w.heap.size := ⟨_, rfl⟩
  have HBXX : Hid (Blk X bx #[.int .i64 2, .string ⟨n.toArray⟩, .int .i64 c.1, .int .i64 c.2, .int .i64 o.k, .string ⟨o.n.toArray⟩, .int .i64 o.a, .int .i64 o.b] 41) := show Blk X bx #[.int .i64 2, .string ⟨n.toArray⟩, .int .i64 c.1, .int .i64 c.2, .int .i64 o.k, .string ⟨o.n.toArray⟩, .int .i64 o.a, .int .i64 o.b] 41 from by rw [hX, hbx]; exact heap_alloc_new w _
  have HAPX : Hid (AQ S0 pb hb mh mw B rb me rep per (KNof rep KL) WT KL WL C O H es X) := h.more hbX
  have HS0 : Hid (BK S0 w X) := BK.of hbX h.low.1
  have b0 : X.cell? ⟨bx, 0, none⟩ = some (.int .i64 2) := HBXX.out.cell 0
  generalize rln me rep per KL n = KL2 at *
  generalize (rlb me rep per KL n) = cd at *
  clear h hL hnl hl hrep hKL hs1 hs2 hbX
  go_enter Try.func43, Try.ntmps43
  go_upto_region 6 with fail
  rw [← hX, ← hbx]
  clear hX hbx
  go_wp2_with fail
  rename_i K hK
  try rw [show ∀ a : Act, a.put none undef = a from fun _ => rfl]
  refine wp_region_mix (fun wz => wz.cell? ⟨pb, 0, none⟩ = some (.pointer (some ⟨hb, 0, none⟩)) ∧ wz.cell? ⟨bx, 1, none⟩ = some (.string ⟨n.toArray⟩)) (fun i => i == 6 || i == 99) 99 (by kernel_rfl) rfl (by kernel_rfl) (by kernel_rfl) (by kernel_rfl) ?_
  refine withFrP (N := 129) rfl ?_
  intro f0 F0 hff
  have e0 : f0 0 = Value.pointer (some ⟨pb, 0, none⟩) := hff 0
  have e3 : f0 3 = Value.pointer (some ⟨bx, 0, none⟩) := hff 3
  clear hff
  have HCC : (fun wz => wz.cell? ⟨pb, 0, none⟩ = some (.pointer (some ⟨hb, 0, none⟩)) ∧ wz.cell? ⟨bx, 1, none⟩ = some (.string ⟨n.toArray⟩)) (({ X with drawn := X.drawn + 1 } : World)) := ⟨(AQ.q0 HAPX.out :), Blk.cell HBXX.out 1⟩
  refine lyp F0 rfl HCC rfl (by omega) (wanted_none rfl) (v := Value.pointer (some ⟨pb, 0, none⟩)) (fun wr hwr => by simp only [execOp, (F0.eval 0 (by omega)).trans (show _ = Value.pointer (some ⟨pb, 0, none⟩) from by simp [upd, e0, e3])]; first | rfl | simp [go_sem]) fun F1 => ?_
  refine lyp F1 rfl HCC rfl (by omega) (wanted_none rfl) (v := Value.pointer (some ⟨pb, 0, none⟩)) (fun wr hwr => by simp only [execOp, (F1.eval 35 (by omega)).trans (show _ = Value.pointer (some ⟨pb, 0, none⟩) from by simp [upd, e0, e3])]; simp [go_sem]) fun F2 => ?_
  refine lyp F2 rfl HCC rfl (by omega) (wanted_none rfl) (v := Value.pointer (some ⟨pb, 0, none⟩)) (fun wr hwr => by simp only [execOp, (F2.eval 36 (by omega)).trans (show _ = Value.pointer (some ⟨pb, 0, none⟩) from by simp [upd, e0, e3])]; simp [go_sem]) fun F3 => ?_
  refine lyp F3 rfl HCC rfl (by omega) (wanted_none rfl) (v := Value.pointer (some ⟨hb, 0, none⟩)) (fun wr hwr => by simp only [execOp, (F3.eval 37 (by omega)).trans (show _ = Value.pointer (some ⟨pb, 0, none⟩) from by simp [upd, e0, e3])]; simp [go_sem, hwr.1]) fun F4 => ?_
  refine lyp F4 rfl HCC rfl (by omega) (wanted_none rfl) (v := Value.pointer (some ⟨bx, 1, none⟩)) (fun wr hwr => by simp only [execOp, (F4.eval 3 (by omega)).trans (show _ = Value.pointer (some ⟨bx, 0, none⟩) from by simp [upd, e0, e3])]; simp [go_sem]) fun F5 => ?_
  refine lyp F5 rfl HCC rfl (by omega) (wanted_none rfl) (v := Value.string ⟨n.toArray⟩) (fun wr hwr => by simp only [execOp, (F5.eval 39 (by omega)).trans (show _ = Value.pointer (some ⟨bx, 1, none⟩) from by simp [upd, e0, e3])]; simp [go_sem, hwr.2]) fun F6 => ?_
  refine lcp F6 rfl HCC rfl (by omega) (wanted_none rfl) (g := 22) (args := #[Value.pointer (some ⟨hb, 0, none⟩), Value.string ⟨n.toArray⟩]) (by simp only [execOp, resolve, invoke, List.map_toArray, List.map_cons, List.map_nil, (F6.eval 38 (by omega)).trans (show _ = Value.pointer (some ⟨hb, 0, none⟩) from by simp [upd, e0, e3]), (F6.eval 40 (by omega)).trans (show _ = Value.string ⟨n.toArray⟩ from by simp [upd, e0, e3])]; simp [go_sem, Act.eval]) (HM1.out (({ X with drawn := X.drawn + 1 } : World)) (AQ.t HAPX.out |>.more (Below.drew (Below.refl _ _)))) ?_
  rintro e w2 ⟨rfl, hT2, hc2⟩
  refine ⟨_, rfl, fun F7 => ?_⟩
  have hA2 := (HAPX.out.more (Below.drew (Below.refl X.heap.size X))).setH hT2 hc2
  have hx2 : Blk w2 bx _ 41 := hc2.blk (show Blk (({ X with drawn := X.drawn + 1 } : World)) bx _ 41 from HBXX.out) (HAPX.out.t.hm.ne_b HBXX.out)
  have HC2 : (fun wz => wz.cell? ⟨pb, 0, none⟩ = some (.pointer (some ⟨hb, 0, none⟩)) ∧ wz.cell? ⟨bx, 1, none⟩ = some (.string ⟨n.toArray⟩)) w2 := ⟨(AQ.q0 hA2.1 :), hx2.cell 1⟩
  refine lyp F7 rfl HC2 rfl (by omega) (wanted_none rfl) (v := Value.bool cd) (fun wr hwr => by simp only [execOp, (F7.eval 41 (by omega)).trans (show _ = Value.bool cd from by simp [upd, e0, e3])]; first | rfl | simp [go_sem]) fun F8 => ?_
  refine ⟨fun _ => HC2, ?_⟩
  refine hK _ _ ?_
  clear F0 F1 F2 F3 F4 F5 F6 F7 F8 e0 e3 
  simp only [Act.put, List.setIfInBounds_toArray, List.set_cons_succ, List.set_cons_zero]

  have HAPw2 : Hid (AQ S0 pb hb mh mw B rb me rep per (KNof rep KL2) WT KL WL C O H es w2) := hA2.1
  have HBXw2 : Hid (Blk w2 bx #[.int .i64 2, .string ⟨n.toArray⟩, .int .i64 c.1, .int .i64 c.2, .int .i64 o.k, .string ⟨o.n.toArray⟩, .int .i64 o.a, .int .i64 o.b] 41) := hx2
  have HS2 : Hid (BK S0 w w2) := (HS0.out.trans (BK.dr S0 X)).trans hA2.2
  clear hA2 hx2 HC2 hT2 hc2 b0
  obtain ⟨kl, wl, hr3, hz3, hn3⟩ := HAPw2.out.r
  go_wp2_with fail
  rename_i K hK
  try rw [show ∀ a : Act, a.put none undef = a from fun _ => rfl]
  refine wp_region_mix (fun wz => wz.cell? ⟨pb, 1, none⟩ = some (.pointer (some ⟨rb, 0, none⟩)) ∧ wz.cell? ⟨bx, 1, none⟩ = some (.string ⟨n.toArray⟩)) (fun i => i == 7 || i == 99) 99 (by kernel_rfl) rfl (by kernel_rfl) (by kernel_rfl) (by kernel_rfl) ?_
  refine withFrP (N := 129) rfl ?_
  intro f0 F0 hff
  have e0 : f0 0 = Value.pointer (some ⟨pb, 0, none⟩) := hff 0
  have e3 : f0 3 = Value.pointer (some ⟨bx, 0, none⟩) := hff 3
  have e6 : f0 6 = Value.bool cd := hff 6
  clear hff
  have HCC : (fun wz => wz.cell? ⟨pb, 1, none⟩ = some (.pointer (some ⟨rb, 0, none⟩)) ∧ wz.cell? ⟨bx, 1, none⟩ = some (.string ⟨n.toArray⟩)) (({ w2 with drawn := w2.drawn + 1 } : World)) := ⟨(AQ.q1 HAPw2.out :), Blk.cell HBXw2.out 1⟩
  refine lyp F0 rfl HCC rfl (by omega) (wanted_none rfl) (v := Value.bool cd) (fun wr hwr => by simp only [execOp, (F0.eval 6 (by omega)).trans (show _ = Value.bool cd from by simp [upd, e0, e3, e6])]; first | rfl | simp [go_sem]) fun Fy1 => ?_
  refine lyp Fy1 rfl HCC rfl (by omega) (wanted_none rfl) (v := Value.pointer (some ⟨pb, 0, none⟩)) (fun wr hwr => by simp only [execOp, (Fy1.eval 0 (by omega)).trans (show _ = Value.pointer (some ⟨pb, 0, none⟩) from by simp [upd, e0, e3, e6])]; first | rfl | simp [go_sem]) fun Fy2 => ?_
  refine lyp Fy2 rfl HCC rfl (by omega) (wanted_none rfl) (v := Value.pointer (some ⟨pb, 0, none⟩)) (fun wr hwr => by simp only [execOp, (Fy2.eval 43 (by omega)).trans (show _ = Value.pointer (some ⟨pb, 0, none⟩) from by simp [upd, e0, e3, e6])]; simp [go_sem]) fun Fy3 => ?_
  refine lyp Fy3 rfl HCC rfl (by omega) (wanted_none rfl) (v := Value.pointer (some ⟨pb, 1, none⟩)) (fun wr hwr => by simp only [execOp, (Fy3.eval 44 (by omega)).trans (show _ = Value.pointer (some ⟨pb, 0, none⟩) from by simp [upd, e0, e3, e6])]; simp [go_sem]) fun Fy4 => ?_
  refine lyp Fy4 rfl HCC rfl (by omega) (wanted_none rfl) (v := Value.pointer (some ⟨rb, 0, none⟩)) (fun wr hwr => by simp only [execOp, (Fy4.eval 45 (by omega)).trans (show _ = Value.pointer (some ⟨pb, 1, none⟩) from by simp [upd, e0, e3, e6])]; simp [go_sem, hwr.1]) fun Fy5 => ?_
  refine lyp Fy5 rfl HCC rfl (by omega) (wanted_none rfl) (v := Value.pointer (some ⟨bx, 1, none⟩)) (fun wr hwr => by simp only [execOp, (Fy5.eval 3 (by omega)).trans (show _ = Value.pointer (some ⟨bx, 0, none⟩) from by simp [upd, e0, e3, e6])]; simp [go_sem]) fun Fy6 => ?_
  refine lyp Fy6 rfl HCC rfl (by omega) (wanted_none rfl) (v := Value.string ⟨n.toArray⟩) (fun wr hwr => by simp only [execOp, (Fy6.eval 47 (by omega)).trans (show _ = Value.pointer (some ⟨bx, 1, none⟩) from by simp [upd, e0, e3, e6])]; simp [go_sem, hwr.2]) fun Fy7 => ?_
  refine lcp Fy7 rfl HCC rfl (by omega) (wanted_none rfl) (g := 55) (args := #[Value.pointer (some ⟨rb, 0, none⟩), Value.string ⟨n.toArray⟩]) (by simp only [execOp, resolve, invoke, List.map_toArray, List.map_cons, List.map_nil, (Fy7.eval 46 (by omega)).trans (show _ = Value.pointer (some ⟨rb, 0, none⟩) from by simp [upd, e0, e3, e6]), (Fy7.eval 48 (by omega)).trans (show _ = Value.string ⟨n.toArray⟩ from by simp [upd, e0, e3, e6])]; simp [go_sem, Act.eval]) (HM2.out (({ w2 with drawn := w2.drawn + 1 } : World)) (hr3.more (Below.drew (Below.refl _ _)))) ?_
  rintro e w4 ⟨rfl, hp4⟩
  refine ⟨_, rfl, fun Fy8 => ?_⟩
  have hA4 := (HAPw2.out.more (Below.drew (Below.refl w2.heap.size w2))).setR (hr3.more (Below.drew (Below.refl _ _))) hz3 hn3 hp4
  have hx4 : Blk w4 bx _ 41 := hp4.1.blk (show Blk (({ w2 with drawn := w2.drawn + 1 } : World)) bx _ 41 from HBXw2.out) (RA.nb (hr3.more (Below.drew (Below.refl _ _))) (show Blk (({ w2 with drawn := w2.drawn + 1 } : World)) bx _ 41 from HBXw2.out) (by decide) (by decide) (by decide))
  have HC4 : (fun wz => wz.cell? ⟨pb, 1, none⟩ = some (.pointer (some ⟨rb, 0, none⟩)) ∧ wz.cell? ⟨bx, 1, none⟩ = some (.string ⟨n.toArray⟩)) w4 := ⟨(AQ.q1 hA4.1 :), hx4.cell 1⟩
  refine lyp Fy8 rfl HC4 rfl (by omega) (wanted_none rfl) (v := Value.bool true) (fun wr hwr => by simp only [execOp, (Fy8.eval 42 (by omega)).trans (show _ = Value.bool cd from by simp [upd, e0, e3, e6]), (Fy8.eval 49 (by omega)).trans (show _ = Value.bool cd from by simp [upd, e0, e3, e6])]; simp [go_sem, Act.eval]) fun Fy9 => ?_
  refine lyp Fy9 rfl HC4 rfl (by omega) (wanted_none rfl) (v := Value.bool true) (fun wr hwr => by simp only [execOp, (Fy9.eval 50 (by omega)).trans (show _ = Value.bool true from by simp [upd, e0, e3, e6])]; first | rfl | simp [go_sem]) fun Fy10 => ?_
  refine ⟨fun _ => HC4, ?_⟩
  refine hK _ _ ?_
  clear F0 Fy1 Fy2 Fy3 Fy4 Fy5 Fy6 Fy7 Fy8 Fy9 Fy10 e0 e3 e6 
  simp only [Act.put, List.setIfInBounds_toArray, List.set_cons_succ, List.set_cons_zero]

  have HF : Hid _ := hA4.1
  have HFB : Hid (BK S0 w w4) := (HS2.out.trans (BK.dr S0 w2)).trans hA4.2
  clear hA4 hx4 HC4 hp4
  go_wp2_with fail
  go_ret
  exact ⟨rfl, HF.out, HFB.out⟩
set_option maxRecDepth 100000 in
set_option maxHeartbeats 1600000 in
theorem qcK {S0 pb hb mh mw B rb : Nat} {me rep per : Int} {KL : List (List UInt8)} {WT : List ((Int × Int) × OpA)} {C : Array Value} {O : Nat → Prop} {H : World} {es : List (Ent S0)} (n : List UInt8) (c : Int × Int) (o : OpA) (w : World) (h : AQ S0 pb hb mh mw B rb me rep per (KNof rep KL) WT KL WT C O H es w) (hL : KL.length ≤ 100000) (hW : WT.length ≤ 100000) :
    Calls Try.prog 43 #[.pointer (some ⟨pb, 0, none⟩), .agg #[.int .i64 5, .string ⟨n.toArray⟩, .int .i64 c.1, .int .i64 c.2, .int .i64 o.k, .string ⟨o.n.toArray⟩, .int .i64 o.a, .int .i64 o.b]] w fun e w' => e = .returned (.bool true) ∧ AQ S0 pb hb mh mw B rb me rep per (KNof rep KL) WT KL WT C O H es w' ∧ BK S0 w w' := by
  obtain ⟨kb, hkb⟩ : ∃ kb, kb = decide (n ∈ KL) := ⟨_, rfl⟩
  have HM1 : Hid (∀ w', Tb hb mh mw me rep per (KNof rep KL) WT w' → Calls Try.prog 23 #[.pointer (some ⟨hb, 0, none⟩), .string ⟨n.toArray⟩] w' fun q w'' => q = .returned (.bool kb) ∧ w'' = w') := fun w' hT => by
    have := knows_any n w' hT
    rw [knows_of, ← hkb] at this
    exact this
  have HM2 : Hid (∀ {kl wl : Value} w', RT B rb kl wl me rep per KL WT w' → Calls Try.prog 58 #[.pointer (some ⟨rb, 0, none⟩), .string ⟨n.toArray⟩] w' fun q w'' => q = .returned (.bool kb) ∧ w'' = w') := fun w' hR => by
    have := rknows_any n w' hR hL
    rw [← hkb] at this
    exact this
  obtain ⟨X, hX⟩ : ∃ X, X = w.alloc (.cells #[.int .i64 5, .string ⟨n.toArray⟩, .int .i64 c.1, .int .i64 c.2, .int .i64 o.k, .string ⟨o.n.toArray⟩, .int .i64 o.a, .int .i64 o.b] 41) := ⟨_, rfl⟩
  have hbX : Below w.heap.size w X := by rw [hX]; exact (Below.refl _ _).alloc (Nat.le_refl _) _
  obtain ⟨bx, hbx⟩ : ∃ bx, bx = w.heap.size := ⟨_, rfl⟩
  have HBXX : Hid (Blk X bx #[.int .i64 5, .string ⟨n.toArray⟩, .int .i64 c.1, .int .i64 c.2, .int .i64 o.k, .string ⟨o.n.toArray⟩, .int .i64 o.a, .int .i64 o.b] 41) := show Blk X bx #[.int .i64 5, .string ⟨n.toArray⟩, .int .i64 c.1, .int .i64 c.2, .int .i64 o.k, .string ⟨o.n.toArray⟩, .int .i64 o.a, .int .i64 o.b] 41 from by rw [hX, hbx]; exact heap_alloc_new w _
  have HAPX : Hid (AQ S0 pb hb mh mw B rb me rep per (KNof rep KL) WT KL WT C O H es X) := h.more hbX
  have HS0 : Hid (BK S0 w X) := BK.of hbX h.low.1
  have b0 : X.cell? ⟨bx, 0, none⟩ = some (.int .i64 5) := HBXX.out.cell 0
  clear hkb h hL hW hbX
  obtain ⟨kl, wl, hr3, hz3, hn3⟩ := HAPX.out.r
  go_enter Try.func43, Try.ntmps43
  go_upto_region 16 with fail
  rw [← hX, ← hbx]
  clear hX hbx
  go_wp2_with fail
  rename_i K hK
  try rw [show ∀ a : Act, a.put none undef = a from fun _ => rfl]
  refine wp_region_mix (fun wz => wz.cell? ⟨pb, 0, none⟩ = some (.pointer (some ⟨hb, 0, none⟩)) ∧ wz.cell? ⟨pb, 1, none⟩ = some (.pointer (some ⟨rb, 0, none⟩)) ∧ wz.cell? ⟨bx, 1, none⟩ = some (.string ⟨n.toArray⟩)) (fun i => i == 6 || i == 13 || i == 99) 99 (by kernel_rfl) rfl (by kernel_rfl) (by kernel_rfl) (by kernel_rfl) ?_
  refine withFrP (N := 129) rfl ?_
  intro f0 F0 hff
  have e0 : f0 0 = Value.pointer (some ⟨pb, 0, none⟩) := hff 0
  have e3 : f0 3 = Value.pointer (some ⟨bx, 0, none⟩) := hff 3
  clear hff
  have HCC : (fun wz => wz.cell? ⟨pb, 0, none⟩ = some (.pointer (some ⟨hb, 0, none⟩)) ∧ wz.cell? ⟨pb, 1, none⟩ = some (.pointer (some ⟨rb, 0, none⟩)) ∧ wz.cell? ⟨bx, 1, none⟩ = some (.string ⟨n.toArray⟩)) (({ X with drawn := X.drawn + 1 } : World)) := ⟨(AQ.q0 HAPX.out :), (AQ.q1 HAPX.out :), Blk.cell HBXX.out 1⟩
  refine lyp F0 rfl HCC rfl (by omega) (wanted_none rfl) (v := Value.pointer (some ⟨pb, 0, none⟩)) (fun wr hwr => by simp only [execOp, (F0.eval 0 (by omega)).trans (show _ = Value.pointer (some ⟨pb, 0, none⟩) from by simp [upd, e0, e3])]; first | rfl | simp [go_sem]) fun F1 => ?_
  refine lyp F1 rfl HCC rfl (by omega) (wanted_none rfl) (v := Value.pointer (some ⟨pb, 0, none⟩)) (fun wr hwr => by simp only [execOp, (F1.eval 106 (by omega)).trans (show _ = Value.pointer (some ⟨pb, 0, none⟩) from by simp [upd, e0, e3])]; simp [go_sem]) fun F2 => ?_
  refine lyp F2 rfl HCC rfl (by omega) (wanted_none rfl) (v := Value.pointer (some ⟨pb, 0, none⟩)) (fun wr hwr => by simp only [execOp, (F2.eval 107 (by omega)).trans (show _ = Value.pointer (some ⟨pb, 0, none⟩) from by simp [upd, e0, e3])]; simp [go_sem]) fun F3 => ?_
  refine lyp F3 rfl HCC rfl (by omega) (wanted_none rfl) (v := Value.pointer (some ⟨hb, 0, none⟩)) (fun wr hwr => by simp only [execOp, (F3.eval 108 (by omega)).trans (show _ = Value.pointer (some ⟨pb, 0, none⟩) from by simp [upd, e0, e3])]; simp [go_sem, hwr.1]) fun F4 => ?_
  refine lyp F4 rfl HCC rfl (by omega) (wanted_none rfl) (v := Value.pointer (some ⟨bx, 1, none⟩)) (fun wr hwr => by simp only [execOp, (F4.eval 3 (by omega)).trans (show _ = Value.pointer (some ⟨bx, 0, none⟩) from by simp [upd, e0, e3])]; simp [go_sem]) fun F5 => ?_
  refine lyp F5 rfl HCC rfl (by omega) (wanted_none rfl) (v := Value.string ⟨n.toArray⟩) (fun wr hwr => by simp only [execOp, (F5.eval 110 (by omega)).trans (show _ = Value.pointer (some ⟨bx, 1, none⟩) from by simp [upd, e0, e3])]; simp [go_sem, hwr.2.2]) fun F6 => ?_
  refine lcp F6 rfl HCC rfl (by omega) (wanted_none rfl) (g := 23) (args := #[Value.pointer (some ⟨hb, 0, none⟩), Value.string ⟨n.toArray⟩]) (by simp only [execOp, resolve, invoke, List.map_toArray, List.map_cons, List.map_nil, (F6.eval 109 (by omega)).trans (show _ = Value.pointer (some ⟨hb, 0, none⟩) from by simp [upd, e0, e3]), (F6.eval 111 (by omega)).trans (show _ = Value.string ⟨n.toArray⟩ from by simp [upd, e0, e3])]; simp [go_sem, Act.eval]) (HM1.out (({ X with drawn := X.drawn + 1 } : World)) (AQ.t HAPX.out |>.more (Below.drew (Below.refl _ _)))) ?_
  rintro e w2 ⟨rfl, hw2⟩
  subst hw2
  refine ⟨_, rfl, fun F7 => ?_⟩
  refine lyp F7 rfl HCC rfl (by omega) (wanted_none rfl) (v := Value.pointer (some ⟨pb, 0, none⟩)) (fun wr hwr => by simp only [execOp, (F7.eval 0 (by omega)).trans (show _ = Value.pointer (some ⟨pb, 0, none⟩) from by simp [upd, e0, e3])]; first | rfl | simp [go_sem]) fun F8 => ?_
  refine lyp F8 rfl HCC rfl (by omega) (wanted_none rfl) (v := Value.pointer (some ⟨pb, 0, none⟩)) (fun wr hwr => by simp only [execOp, (F8.eval 113 (by omega)).trans (show _ = Value.pointer (some ⟨pb, 0, none⟩) from by simp [upd, e0, e3])]; simp [go_sem]) fun F9 => ?_
  refine lyp F9 rfl HCC rfl (by omega) (wanted_none rfl) (v := Value.pointer (some ⟨pb, 1, none⟩)) (fun wr hwr => by simp only [execOp, (F9.eval 114 (by omega)).trans (show _ = Value.pointer (some ⟨pb, 0, none⟩) from by simp [upd, e0, e3])]; simp [go_sem]) fun F10 => ?_
  refine lyp F10 rfl HCC rfl (by omega) (wanted_none rfl) (v := Value.pointer (some ⟨rb, 0, none⟩)) (fun wr hwr => by simp only [execOp, (F10.eval 115 (by omega)).trans (show _ = Value.pointer (some ⟨pb, 1, none⟩) from by simp [upd, e0, e3])]; simp [go_sem, hwr.2.1]) fun F11 => ?_
  refine lyp F11 rfl HCC rfl (by omega) (wanted_none rfl) (v := Value.pointer (some ⟨bx, 1, none⟩)) (fun wr hwr => by simp only [execOp, (F11.eval 3 (by omega)).trans (show _ = Value.pointer (some ⟨bx, 0, none⟩) from by simp [upd, e0, e3])]; simp [go_sem]) fun F12 => ?_
  refine lyp F12 rfl HCC rfl (by omega) (wanted_none rfl) (v := Value.string ⟨n.toArray⟩) (fun wr hwr => by simp only [execOp, (F12.eval 117 (by omega)).trans (show _ = Value.pointer (some ⟨bx, 1, none⟩) from by simp [upd, e0, e3])]; simp [go_sem, hwr.2.2]) fun F13 => ?_
  refine lcp F13 rfl HCC rfl (by omega) (wanted_none rfl) (g := 58) (args := #[Value.pointer (some ⟨rb, 0, none⟩), Value.string ⟨n.toArray⟩]) (by simp only [execOp, resolve, invoke, List.map_toArray, List.map_cons, List.map_nil, (F13.eval 116 (by omega)).trans (show _ = Value.pointer (some ⟨rb, 0, none⟩) from by simp [upd, e0, e3]), (F13.eval 118 (by omega)).trans (show _ = Value.string ⟨n.toArray⟩ from by simp [upd, e0, e3])]; simp [go_sem, Act.eval]) (HM2.out (({ X with drawn := X.drawn + 1 } : World)) (hr3.more (Below.drew (Below.refl _ _)))) ?_
  rintro e w2 ⟨rfl, hw2⟩
  subst hw2
  refine ⟨_, rfl, fun F14 => ?_⟩
  refine lyp F14 rfl HCC rfl (by omega) (wanted_none rfl) (v := Value.bool true) (fun wr hwr => by simp only [execOp, (F14.eval 112 (by omega)).trans (show _ = Value.bool kb from by simp [upd, e0, e3]), (F14.eval 119 (by omega)).trans (show _ = Value.bool kb from by simp [upd, e0, e3])]; cases kb <;> simp [go_sem, Act.eval]) fun F15 => ?_
  refine lyp F15 rfl HCC rfl (by omega) (wanted_none rfl) (v := Value.bool true) (fun wr hwr => by simp only [execOp, (F15.eval 120 (by omega)).trans (show _ = Value.bool true from by simp [upd, e0, e3])]; first | rfl | simp [go_sem]) fun F16 => ?_
  refine ⟨fun _ => HCC, ?_⟩
  refine hK _ _ ?_
  clear F0 F1 F2 F3 F4 F5 F6 F7 F8 F9 F10 F11 F12 F13 F14 F15 F16 e0 e3 
  simp only [Act.put, List.setIfInBounds_toArray, List.set_cons_succ, List.set_cons_zero]

  have HF : Hid (AQ S0 pb hb mh mw B rb me rep per (KNof rep KL) WT KL WT C O H es ({ X with drawn := X.drawn + 1 } : World)) := HAPX.out.more (Below.drew (Below.refl _ _))
  have HFB : Hid (BK S0 w ({ X with drawn := X.drawn + 1 } : World)) := HS0.out.trans (BK.dr S0 X)
  clear HCC b0
  go_wp2_with fail
  go_ret
  exact ⟨rfl, HF.out, HFB.out⟩
set_option maxRecDepth 100000 in
set_option maxHeartbeats 1600000 in
theorem qcS {S0 pb hb mh mw B rb : Nat} {me rep per : Int} {KL : List (List UInt8)} {WT : List ((Int × Int) × OpA)} {C : Array Value} {O : Nat → Prop} {H : World} {es : List (Ent S0)} (n : List UInt8) (c : Int × Int) (o : OpA) (w : World) (h : AQ S0 pb hb mh mw B rb me rep per (KNof rep KL) WT KL WT C O H es w) (hL : KL.length ≤ 100000) (hW : WT.length ≤ 100000) (hl : o.n.length ≤ 140737488355328) :
    Calls Try.prog 43 #[.pointer (some ⟨pb, 0, none⟩), .agg #[.int .i64 3, .string ⟨n.toArray⟩, .int .i64 c.1, .int .i64 c.2, .int .i64 o.k, .string ⟨o.n.toArray⟩, .int .i64 o.a, .int .i64 o.b]] w fun e w' => e = .returned (.bool true) ∧ AQ S0 pb hb mh mw B rb me rep per (KNof rep KL) (askNext WT c o) KL (askNext WT c o) C O H es w' ∧ BK S0 w w' := by
  obtain ⟨cd, hcd⟩ : ∃ cd, cd = askCode WT c o := ⟨_, rfl⟩
  have HM1 : Hid (∀ w', Tb hb mh mw me rep per (KNof rep KL) WT w' → Calls Try.prog 19 #[.pointer (some ⟨hb, 0, none⟩), .agg #[.int .i64 c.1, .int .i64 c.2], .agg #[.int .i64 o.k, .string ⟨o.n.toArray⟩, .int .i64 o.a, .int .i64 o.b]] w' fun q w'' => q = .returned (.int .i64 cd) ∧ Tb hb mh mw me rep per (KNof rep KL) (askNext WT c o) w'' ∧ Chg (fun k => k = mw) w' w'') := fun w' hT => by
    rw [hcd]
    exact ask_any c o w' hT hl
  have HM2 : Hid (∀ {kl wl : Value} w', RT B rb kl wl me rep per KL WT w' → Calls Try.prog 56 #[.pointer (some ⟨rb, 0, none⟩), .agg #[.int .i64 c.1, .int .i64 c.2], .agg #[.int .i64 o.k, .string ⟨o.n.toArray⟩, .int .i64 o.a, .int .i64 o.b]] w' fun q w'' => q = .returned (.int .i64 cd) ∧ RPost B rb kl wl me rep per KL (askNext WT c o) w' w'') := fun w' hR => by
    rw [hcd]
    exact rask_any c o w' hR hW hl
  obtain ⟨X, hX⟩ : ∃ X, X = w.alloc (.cells #[.int .i64 3, .string ⟨n.toArray⟩, .int .i64 c.1, .int .i64 c.2, .int .i64 o.k, .string ⟨o.n.toArray⟩, .int .i64 o.a, .int .i64 o.b] 41) := ⟨_, rfl⟩
  have hbX : Below w.heap.size w X := by rw [hX]; exact (Below.refl _ _).alloc (Nat.le_refl _) _
  obtain ⟨bx, hbx⟩ : ∃ bx, bx = w.heap.size := ⟨_, rfl⟩
  have HBXX : Hid (Blk X bx #[.int .i64 3, .string ⟨n.toArray⟩, .int .i64 c.1, .int .i64 c.2, .int .i64 o.k, .string ⟨o.n.toArray⟩, .int .i64 o.a, .int .i64 o.b] 41) := show Blk X bx #[.int .i64 3, .string ⟨n.toArray⟩, .int .i64 c.1, .int .i64 c.2, .int .i64 o.k, .string ⟨o.n.toArray⟩, .int .i64 o.a, .int .i64 o.b] 41 from by rw [hX, hbx]; exact heap_alloc_new w _
  have HAPX : Hid (AQ S0 pb hb mh mw B rb me rep per (KNof rep KL) WT KL WT C O H es X) := h.more hbX
  have HS0 : Hid (BK S0 w X) := BK.of hbX h.low.1
  have b0 : X.cell? ⟨bx, 0, none⟩ = some (.int .i64 3) := HBXX.out.cell 0
  generalize askNext WT c o = W2l at *
  clear hcd h hL hW hbX hl
  go_enter Try.func43, Try.ntmps43
  go_upto_region 9 with fail
  rw [← hX, ← hbx]
  clear hX hbx
  go_wp2_with fail
  rename_i K hK
  try rw [show ∀ a : Act, a.put none undef = a from fun _ => rfl]
  refine wp_region_mix (fun wz => wz.cell? ⟨pb, 0, none⟩ = some (.pointer (some ⟨hb, 0, none⟩)) ∧ Blk wz bx #[.int .i64 3, .string ⟨n.toArray⟩, .int .i64 c.1, .int .i64 c.2, .int .i64 o.k, .string ⟨o.n.toArray⟩, .int .i64 o.a, .int .i64 o.b] 41) (fun i => i == 8 || i == 99) 99 (by kernel_rfl) rfl (by kernel_rfl) (by kernel_rfl) (by kernel_rfl) ?_
  refine withFrP (N := 129) rfl ?_
  intro f0 F0 hff
  have e0 : f0 0 = Value.pointer (some ⟨pb, 0, none⟩) := hff 0
  have e3 : f0 3 = Value.pointer (some ⟨bx, 0, none⟩) := hff 3
  clear hff
  have HCC : (fun wz => wz.cell? ⟨pb, 0, none⟩ = some (.pointer (some ⟨hb, 0, none⟩)) ∧ Blk wz bx #[.int .i64 3, .string ⟨n.toArray⟩, .int .i64 c.1, .int .i64 c.2, .int .i64 o.k, .string ⟨o.n.toArray⟩, .int .i64 o.a, .int .i64 o.b] 41) (({ X with drawn := X.drawn + 1 } : World)) := ⟨(AQ.q0 HAPX.out :), HBXX.out⟩
  refine lyp F0 rfl HCC rfl (by omega) (wanted_none rfl) (v := Value.pointer (some ⟨pb, 0, none⟩)) (fun wr hwr => by simp only [execOp, (F0.eval 0 (by omega)).trans (show _ = Value.pointer (some ⟨pb, 0, none⟩) from by simp [upd, e0, e3])]; first | rfl | simp [go_sem]) fun F1 => ?_
  refine lyp F1 rfl HCC rfl (by omega) (wanted_none rfl) (v := Value.pointer (some ⟨pb, 0, none⟩)) (fun wr hwr => by simp only [execOp, (F1.eval 53 (by omega)).trans (show _ = Value.pointer (some ⟨pb, 0, none⟩) from by simp [upd, e0, e3])]; simp [go_sem]) fun F2 => ?_
  refine lyp F2 rfl HCC rfl (by omega) (wanted_none rfl) (v := Value.pointer (some ⟨pb, 0, none⟩)) (fun wr hwr => by simp only [execOp, (F2.eval 54 (by omega)).trans (show _ = Value.pointer (some ⟨pb, 0, none⟩) from by simp [upd, e0, e3])]; simp [go_sem]) fun F3 => ?_
  refine lyp F3 rfl HCC rfl (by omega) (wanted_none rfl) (v := Value.pointer (some ⟨hb, 0, none⟩)) (fun wr hwr => by simp only [execOp, (F3.eval 55 (by omega)).trans (show _ = Value.pointer (some ⟨pb, 0, none⟩) from by simp [upd, e0, e3])]; simp [go_sem, hwr.1]) fun F4 => ?_
  refine lyp F4 rfl HCC rfl (by omega) (wanted_none rfl) (v := Value.pointer (some ⟨bx, 2, none⟩)) (fun wr hwr => by simp only [execOp, (F4.eval 3 (by omega)).trans (show _ = Value.pointer (some ⟨bx, 0, none⟩) from by simp [upd, e0, e3])]; simp [go_sem]) fun F5 => ?_
  refine lyp F5 rfl HCC rfl (by omega) (wanted_none rfl) (v := Value.agg #[.int .i64 c.1, .int .i64 c.2]) (fun wr hwr => by simp only [execOp, (F5.eval 57 (by omega)).trans (show _ = Value.pointer (some ⟨bx, 2, none⟩) from by simp [upd, e0, e3])]; simp [go_sem, show wr.cell? ⟨bx, 2, none⟩ = some (.int .i64 c.1) from hwr.2.cell 2, show wr.cell? ⟨bx, 3, none⟩ = some (.int .i64 c.2) from hwr.2.cell 3]) fun F6 => ?_
  refine lyp F6 rfl HCC rfl (by omega) (wanted_none rfl) (v := Value.pointer (some ⟨bx, 4, none⟩)) (fun wr hwr => by simp only [execOp, (F6.eval 3 (by omega)).trans (show _ = Value.pointer (some ⟨bx, 0, none⟩) from by simp [upd, e0, e3])]; simp [go_sem]) fun F7 => ?_
  refine lyp F7 rfl HCC rfl (by omega) (wanted_none rfl) (v := Value.agg #[.int .i64 o.k, .string ⟨o.n.toArray⟩, .int .i64 o.a, .int .i64 o.b]) (fun wr hwr => by simp only [execOp, (F7.eval 59 (by omega)).trans (show _ = Value.pointer (some ⟨bx, 4, none⟩) from by simp [upd, e0, e3])]; simp [go_sem, show wr.cell? ⟨bx, 4, none⟩ = some (.int .i64 o.k) from hwr.2.cell 4, show wr.cell? ⟨bx, 5, none⟩ = some (.string ⟨o.n.toArray⟩) from hwr.2.cell 5, show wr.cell? ⟨bx, 6, none⟩ = some (.int .i64 o.a) from hwr.2.cell 6, show wr.cell? ⟨bx, 7, none⟩ = some (.int .i64 o.b) from hwr.2.cell 7]) fun F8 => ?_
  refine lcp F8 rfl HCC rfl (by omega) (wanted_none rfl) (g := 19) (args := #[Value.pointer (some ⟨hb, 0, none⟩), Value.agg #[.int .i64 c.1, .int .i64 c.2], Value.agg #[.int .i64 o.k, .string ⟨o.n.toArray⟩, .int .i64 o.a, .int .i64 o.b]]) (by simp only [execOp, resolve, invoke, List.map_toArray, List.map_cons, List.map_nil, (F8.eval 56 (by omega)).trans (show _ = Value.pointer (some ⟨hb, 0, none⟩) from by simp [upd, e0, e3]), (F8.eval 58 (by omega)).trans (show _ = Value.agg #[.int .i64 c.1, .int .i64 c.2] from by simp [upd, e0, e3]), (F8.eval 60 (by omega)).trans (show _ = Value.agg #[.int .i64 o.k, .string ⟨o.n.toArray⟩, .int .i64 o.a, .int .i64 o.b] from by simp [upd, e0, e3])]; simp [go_sem, Act.eval]) (HM1.out (({ X with drawn := X.drawn + 1 } : World)) (AQ.t HAPX.out |>.more (Below.drew (Below.refl _ _)))) ?_
  rintro e w2 ⟨rfl, hT2, hc2⟩
  refine ⟨_, rfl, fun F9 => ?_⟩
  have hA2 := (HAPX.out.more (Below.drew (Below.refl X.heap.size X))).setW hT2 hc2
  have hx2 : Blk w2 bx _ 41 := hc2.blk (show Blk (({ X with drawn := X.drawn + 1 } : World)) bx _ 41 from HBXX.out) (HAPX.out.t.wm.ne_b HBXX.out)
  have HC2 : (fun wz => wz.cell? ⟨pb, 0, none⟩ = some (.pointer (some ⟨hb, 0, none⟩)) ∧ Blk wz bx #[.int .i64 3, .string ⟨n.toArray⟩, .int .i64 c.1, .int .i64 c.2, .int .i64 o.k, .string ⟨o.n.toArray⟩, .int .i64 o.a, .int .i64 o.b] 41) w2 := ⟨(AQ.q0 hA2.1 :), hx2⟩
  refine lyp F9 rfl HC2 rfl (by omega) (wanted_none rfl) (v := Value.int .i64 cd) (fun wr hwr => by simp only [execOp, (F9.eval 61 (by omega)).trans (show _ = Value.int .i64 cd from by simp [upd, e0, e3])]; first | rfl | simp [go_sem]) fun F10 => ?_
  refine ⟨fun _ => HC2, ?_⟩
  refine hK _ _ ?_
  clear F0 F1 F2 F3 F4 F5 F6 F7 F8 F9 F10 e0 e3 
  simp only [Act.put, List.setIfInBounds_toArray, List.set_cons_succ, List.set_cons_zero]

  have HAPw2 : Hid (AQ S0 pb hb mh mw B rb me rep per (KNof rep KL) W2l KL WT C O H es w2) := hA2.1
  have HBXw2 : Hid (Blk w2 bx #[.int .i64 3, .string ⟨n.toArray⟩, .int .i64 c.1, .int .i64 c.2, .int .i64 o.k, .string ⟨o.n.toArray⟩, .int .i64 o.a, .int .i64 o.b] 41) := hx2
  have HS2 : Hid (BK S0 w w2) := (HS0.out.trans (BK.dr S0 X)).trans hA2.2
  clear hA2 hx2 HC2 hT2 hc2 b0
  obtain ⟨kl, wl, hr3, hz3, hn3⟩ := HAPw2.out.r
  go_wp2_with fail
  rename_i K hK
  try rw [show ∀ a : Act, a.put none undef = a from fun _ => rfl]
  refine wp_region_mix (fun wz => wz.cell? ⟨pb, 1, none⟩ = some (.pointer (some ⟨rb, 0, none⟩)) ∧ Blk wz bx #[.int .i64 3, .string ⟨n.toArray⟩, .int .i64 c.1, .int .i64 c.2, .int .i64 o.k, .string ⟨o.n.toArray⟩, .int .i64 o.a, .int .i64 o.b] 41) (fun i => i == 1 || i == 10 || i == 99) 99 (by kernel_rfl) rfl (by kernel_rfl) (by kernel_rfl) (by kernel_rfl) ?_
  refine withFrP (N := 129) rfl ?_
  intro f0 F0 hff
  have e0 : f0 0 = Value.pointer (some ⟨pb, 0, none⟩) := hff 0
  have e3 : f0 3 = Value.pointer (some ⟨bx, 0, none⟩) := hff 3
  have e7 : f0 7 = Value.int .i64 cd := hff 7
  clear hff
  have HCC : (fun wz => wz.cell? ⟨pb, 1, none⟩ = some (.pointer (some ⟨rb, 0, none⟩)) ∧ Blk wz bx #[.int .i64 3, .string ⟨n.toArray⟩, .int .i64 c.1, .int .i64 c.2, .int .i64 o.k, .string ⟨o.n.toArray⟩, .int .i64 o.a, .int .i64 o.b] 41) (({ w2 with drawn := w2.drawn + 1 } : World)) := ⟨(AQ.q1 HAPw2.out :), HBXw2.out⟩
  refine lyp F0 rfl HCC rfl (by omega) (wanted_none rfl) (v := Value.int .i64 cd) (fun wr hwr => by simp only [execOp, (F0.eval 7 (by omega)).trans (show _ = Value.int .i64 cd from by simp [upd, e0, e3, e7])]; first | rfl | simp [go_sem]) fun Fy1 => ?_
  refine lcp Fy1 rfl HCC rfl (by omega) (wanted_none rfl) (g := 17) (args := #[Value.int .i64 cd]) (by simp only [execOp, resolve, invoke, List.map_toArray, List.map_cons, List.map_nil, (Fy1.eval 62 (by omega)).trans (show _ = Value.int .i64 cd from by simp [upd, e0, e3, e7])]; simp [go_sem, Act.eval]) (num_any _ (({ w2 with drawn := w2.drawn + 1 } : World))) ?_
  rintro e w3 ⟨rfl, hw3⟩
  subst hw3
  refine ⟨_, rfl, fun Fy2 => ?_⟩
  refine lyp Fy2 rfl HCC rfl (by omega) (wanted_none rfl) (v := Value.pointer (some ⟨pb, 0, none⟩)) (fun wr hwr => by simp only [execOp, (Fy2.eval 0 (by omega)).trans (show _ = Value.pointer (some ⟨pb, 0, none⟩) from by simp [upd, e0, e3, e7])]; first | rfl | simp [go_sem]) fun Fy3 => ?_
  refine lyp Fy3 rfl HCC rfl (by omega) (wanted_none rfl) (v := Value.pointer (some ⟨pb, 0, none⟩)) (fun wr hwr => by simp only [execOp, (Fy3.eval 64 (by omega)).trans (show _ = Value.pointer (some ⟨pb, 0, none⟩) from by simp [upd, e0, e3, e7])]; simp [go_sem]) fun Fy4 => ?_
  refine lyp Fy4 rfl HCC rfl (by omega) (wanted_none rfl) (v := Value.pointer (some ⟨pb, 1, none⟩)) (fun wr hwr => by simp only [execOp, (Fy4.eval 65 (by omega)).trans (show _ = Value.pointer (some ⟨pb, 0, none⟩) from by simp [upd, e0, e3, e7])]; simp [go_sem]) fun Fy5 => ?_
  refine lyp Fy5 rfl HCC rfl (by omega) (wanted_none rfl) (v := Value.pointer (some ⟨rb, 0, none⟩)) (fun wr hwr => by simp only [execOp, (Fy5.eval 66 (by omega)).trans (show _ = Value.pointer (some ⟨pb, 1, none⟩) from by simp [upd, e0, e3, e7])]; simp [go_sem, hwr.1]) fun Fy6 => ?_
  refine lyp Fy6 rfl HCC rfl (by omega) (wanted_none rfl) (v := Value.pointer (some ⟨bx, 2, none⟩)) (fun wr hwr => by simp only [execOp, (Fy6.eval 3 (by omega)).trans (show _ = Value.pointer (some ⟨bx, 0, none⟩) from by simp [upd, e0, e3, e7])]; simp [go_sem]) fun Fy7 => ?_
  refine lyp Fy7 rfl HCC rfl (by omega) (wanted_none rfl) (v := Value.agg #[.int .i64 c.1, .int .i64 c.2]) (fun wr hwr => by simp only [execOp, (Fy7.eval 68 (by omega)).trans (show _ = Value.pointer (some ⟨bx, 2, none⟩) from by simp [upd, e0, e3, e7])]; simp [go_sem, show wr.cell? ⟨bx, 2, none⟩ = some (.int .i64 c.1) from hwr.2.cell 2, show wr.cell? ⟨bx, 3, none⟩ = some (.int .i64 c.2) from hwr.2.cell 3]) fun Fy8 => ?_
  refine lyp Fy8 rfl HCC rfl (by omega) (wanted_none rfl) (v := Value.pointer (some ⟨bx, 4, none⟩)) (fun wr hwr => by simp only [execOp, (Fy8.eval 3 (by omega)).trans (show _ = Value.pointer (some ⟨bx, 0, none⟩) from by simp [upd, e0, e3, e7])]; simp [go_sem]) fun Fy9 => ?_
  refine lyp Fy9 rfl HCC rfl (by omega) (wanted_none rfl) (v := Value.agg #[.int .i64 o.k, .string ⟨o.n.toArray⟩, .int .i64 o.a, .int .i64 o.b]) (fun wr hwr => by simp only [execOp, (Fy9.eval 70 (by omega)).trans (show _ = Value.pointer (some ⟨bx, 4, none⟩) from by simp [upd, e0, e3, e7])]; simp [go_sem, show wr.cell? ⟨bx, 4, none⟩ = some (.int .i64 o.k) from hwr.2.cell 4, show wr.cell? ⟨bx, 5, none⟩ = some (.string ⟨o.n.toArray⟩) from hwr.2.cell 5, show wr.cell? ⟨bx, 6, none⟩ = some (.int .i64 o.a) from hwr.2.cell 6, show wr.cell? ⟨bx, 7, none⟩ = some (.int .i64 o.b) from hwr.2.cell 7]) fun Fy10 => ?_
  refine lcp Fy10 rfl HCC rfl (by omega) (wanted_none rfl) (g := 56) (args := #[Value.pointer (some ⟨rb, 0, none⟩), Value.agg #[.int .i64 c.1, .int .i64 c.2], Value.agg #[.int .i64 o.k, .string ⟨o.n.toArray⟩, .int .i64 o.a, .int .i64 o.b]]) (by simp only [execOp, resolve, invoke, List.map_toArray, List.map_cons, List.map_nil, (Fy10.eval 67 (by omega)).trans (show _ = Value.pointer (some ⟨rb, 0, none⟩) from by simp [upd, e0, e3, e7]), (Fy10.eval 69 (by omega)).trans (show _ = Value.agg #[.int .i64 c.1, .int .i64 c.2] from by simp [upd, e0, e3, e7]), (Fy10.eval 71 (by omega)).trans (show _ = Value.agg #[.int .i64 o.k, .string ⟨o.n.toArray⟩, .int .i64 o.a, .int .i64 o.b] from by simp [upd, e0, e3, e7])]; simp [go_sem, Act.eval]) (HM2.out (({ w2 with drawn := w2.drawn + 1 } : World)) (hr3.more (Below.drew (Below.refl _ _)))) ?_
  rintro e w4 ⟨rfl, hp4⟩
  refine ⟨_, rfl, fun Fy11 => ?_⟩
  have hA4 := (HAPw2.out.more (Below.drew (Below.refl w2.heap.size w2))).setR (hr3.more (Below.drew (Below.refl _ _))) hz3 hn3 hp4
  have hx4 : Blk w4 bx _ 41 := hp4.1.blk (show Blk (({ w2 with drawn := w2.drawn + 1 } : World)) bx _ 41 from HBXw2.out) (RA.nb (hr3.more (Below.drew (Below.refl _ _))) (show Blk (({ w2 with drawn := w2.drawn + 1 } : World)) bx _ 41 from HBXw2.out) (by decide) (by decide) (by decide))
  have HC4 : (fun wz => wz.cell? ⟨pb, 1, none⟩ = some (.pointer (some ⟨rb, 0, none⟩)) ∧ Blk wz bx #[.int .i64 3, .string ⟨n.toArray⟩, .int .i64 c.1, .int .i64 c.2, .int .i64 o.k, .string ⟨o.n.toArray⟩, .int .i64 o.a, .int .i64 o.b] 41) w4 := ⟨(AQ.q1 hA4.1 :), hx4⟩
  refine lyp Fy11 rfl HC4 rfl (by omega) (wanted_none rfl) (v := Value.bool true) (fun wr hwr => by simp only [execOp, (Fy11.eval 63 (by omega)).trans (show _ = Value.int .i64 cd from by simp [upd, e0, e3, e7]), (Fy11.eval 72 (by omega)).trans (show _ = Value.int .i64 cd from by simp [upd, e0, e3, e7])]; simp [go_sem, Act.eval]) fun Fy12 => ?_
  refine lyp Fy12 rfl HC4 rfl (by omega) (wanted_none rfl) (v := Value.bool true) (fun wr hwr => by simp only [execOp, (Fy12.eval 73 (by omega)).trans (show _ = Value.bool true from by simp [upd, e0, e3, e7])]; first | rfl | simp [go_sem]) fun Fy13 => ?_
  refine ⟨fun _ => HC4, ?_⟩
  refine hK _ _ ?_
  clear F0 Fy1 Fy2 Fy3 Fy4 Fy5 Fy6 Fy7 Fy8 Fy9 Fy10 Fy11 Fy12 Fy13 e0 e3 e7 
  simp only [Act.put, List.setIfInBounds_toArray, List.set_cons_succ, List.set_cons_zero]

  have HF : Hid _ := hA4.1
  have HFB : Hid (BK S0 w w4) := (HS2.out.trans (BK.dr S0 w2)).trans hA4.2
  clear hA4 hx4 HC4 hp4
  go_wp2_with fail
  go_ret
  exact ⟨rfl, HF.out, HFB.out⟩
set_option maxRecDepth 100000 in
set_option maxHeartbeats 3200000 in
theorem qcT {S0 pb hb mh mw B rb : Nat} {me rep per : Int} {KL : List (List UInt8)} {WT : List ((Int × Int) × OpA)} {C : Array Value} {O : Nat → Prop} {H : World} {es : List (Ent S0)} (n : List UInt8) (c : Int × Int) (o : OpA) (w : World) (h : AQ S0 pb hb mh mw B rb me rep per (KNof rep KL) WT KL WT C O H es w) (hL : KL.length ≤ 100000) (hW : WT.length ≤ 100000) :
    Calls Try.prog 43 #[.pointer (some ⟨pb, 0, none⟩), .agg #[.int .i64 4, .string ⟨n.toArray⟩, .int .i64 c.1, .int .i64 c.2, .int .i64 o.k, .string ⟨o.n.toArray⟩, .int .i64 o.a, .int .i64 o.b]] w fun e w' => e = .returned (.bool true) ∧ AQ S0 pb hb mh mw B rb me rep per (KNof rep KL) (rmK c WT) KL (rmK c WT) C O H es w' ∧ BK S0 w w' := by
  obtain ⟨l0, hl0⟩ : ∃ l0, l0 = (look c WT).getD zop := ⟨_, rfl⟩
  obtain ⟨th, hth⟩ : ∃ th, th = (look c WT).isSome := ⟨_, rfl⟩
  have HM1 : Hid (∀ w', Tb hb mh mw me rep per (KNof rep KL) WT w' → Calls Try.prog 18 #[.pointer (some ⟨hb, 0, none⟩), .agg #[.int .i64 c.1, .int .i64 c.2]] w' fun q w'' => q = .returned (.tuple #[.agg #[.int .i64 l0.k, .string ⟨l0.n.toArray⟩, .int .i64 l0.a, .int .i64 l0.b], .bool th]) ∧ Tb hb mh mw me rep per (KNof rep KL) (rmK c WT) w'' ∧ Chg (fun k => k = mw) w' w'') := fun w' hT => by
    rw [hl0, hth]
    exact told_any c w' hT
  have HM2 : Hid (∀ {kl wl : Value} w', RT B rb kl wl me rep per KL WT w' → Calls Try.prog 57 #[.pointer (some ⟨rb, 0, none⟩), .agg #[.int .i64 c.1, .int .i64 c.2]] w' fun q w'' => q = .returned (.tuple #[.agg #[.int .i64 l0.k, .string ⟨l0.n.toArray⟩, .int .i64 l0.a, .int .i64 l0.b], .bool th]) ∧ RPost B rb kl wl me rep per KL (rmK c WT) w' w'') := fun w' hR => by
    rw [hl0, hth]
    exact rtold_any c w' hR hW
  obtain ⟨X, hX⟩ : ∃ X, X = w.alloc (.cells #[.int .i64 4, .string ⟨n.toArray⟩, .int .i64 c.1, .int .i64 c.2, .int .i64 o.k, .string ⟨o.n.toArray⟩, .int .i64 o.a, .int .i64 o.b] 41) := ⟨_, rfl⟩
  have hbX : Below w.heap.size w X := by rw [hX]; exact (Below.refl _ _).alloc (Nat.le_refl _) _
  obtain ⟨bx, hbx⟩ : ∃ bx, bx = w.heap.size := ⟨_, rfl⟩
  have HBXX : Hid (Blk X bx #[.int .i64 4, .string ⟨n.toArray⟩, .int .i64 c.1, .int .i64 c.2, .int .i64 o.k, .string ⟨o.n.toArray⟩, .int .i64 o.a, .int .i64 o.b] 41) := show Blk X bx #[.int .i64 4, .string ⟨n.toArray⟩, .int .i64 c.1, .int .i64 c.2, .int .i64 o.k, .string ⟨o.n.toArray⟩, .int .i64 o.a, .int .i64 o.b] 41 from by rw [hX, hbx]; exact heap_alloc_new w _
  have HAPX : Hid (AQ S0 pb hb mh mw B rb me rep per (KNof rep KL) WT KL WT C O H es X) := h.more hbX
  have HS0 : Hid (BK S0 w X) := BK.of hbX h.low.1
  have b0 : X.cell? ⟨bx, 0, none⟩ = some (.int .i64 4) := HBXX.out.cell 0
  generalize rmK c WT = W2l at *
  clear hl0 hth h hL hW hbX
  go_enter Try.func43, Try.ntmps43
  go_upto_region 12 with fail
  rw [← hX, ← hbx]
  clear hX hbx
  go_wp2_with fail
  rename_i K hK
  try rw [show ∀ a : Act, a.put none undef = a from fun _ => rfl]
  have hrest : ∀ (a : Act) (f' : Nat → Value) (Y : World) (b1 : Nat), Fr 129 a f' → f' 0 = Value.pointer (some ⟨pb, 0, none⟩) → f' 3 = Value.pointer (some ⟨bx, 0, none⟩) → f' 8 = Value.pointer (some ⟨b1, 0, none⟩) → f' 9 = Value.bool th → AQ S0 pb hb mh mw B rb me rep per (KNof rep KL) W2l KL WT C O H es Y → Blk Y bx #[.int .i64 4, .string ⟨n.toArray⟩, .int .i64 c.1, .int .i64 c.2, .int .i64 o.k, .string ⟨o.n.toArray⟩, .int .i64 o.a, .int .i64 o.b] 41 → Blk Y b1 #[.int .i64 l0.k, .string ⟨l0.n.toArray⟩, .int .i64 l0.a, .int .i64 l0.b] 39 → BK S0 w Y → K a Y := by
    intro a f' Y b1 F' k0 k3 k8 k9 hAY hxY hb1 hSY
    refine hK _ _ ?_
    rw [F'.lit, show ((List.range 129).map f').toArray = #[f' 0, f' 1, f' 2, f' 3, f' 4, f' 5, f' 6, f' 7, f' 8, f' 9, f' 10, f' 11, f' 12, f' 13, f' 14, f' 15, f' 16, f' 17, f' 18, f' 19, f' 20, f' 21, f' 22, f' 23, f' 24, f' 25, f' 26, f' 27, f' 28, f' 29, f' 30, f' 31, f' 32, f' 33, f' 34, f' 35, f' 36, f' 37, f' 38, f' 39, f' 40, f' 41, f' 42, f' 43, f' 44, f' 45, f' 46, f' 47, f' 48, f' 49, f' 50, f' 51, f' 52, f' 53, f' 54, f' 55, f' 56, f' 57, f' 58, f' 59, f' 60, f' 61, f' 62, f' 63, f' 64, f' 65, f' 66, f' 67, f' 68, f' 69, f' 70, f' 71, f' 72, f' 73, f' 74, f' 75, f' 76, f' 77, f' 78, f' 79, f' 80, f' 81, f' 82, f' 83, f' 84, f' 85, f' 86, f' 87, f' 88, f' 89, f' 90, f' 91, f' 92, f' 93, f' 94, f' 95, f' 96, f' 97, f' 98, f' 99, f' 100, f' 101, f' 102, f' 103, f' 104, f' 105, f' 106, f' 107, f' 108, f' 109, f' 110, f' 111, f' 112, f' 113, f' 114, f' 115, f' 116, f' 117, f' 118, f' 119, f' 120, f' 121, f' 122, f' 123, f' 124, f' 125, f' 126, f' 127, f' 128] from rfl, k0, k3, k8, k9]
    have HAPY : Hid (AQ S0 pb hb mh mw B rb me rep per (KNof rep KL) W2l KL WT C O H es Y) := hAY
    have HBXY : Hid (Blk Y bx #[.int .i64 4, .string ⟨n.toArray⟩, .int .i64 c.1, .int .i64 c.2, .int .i64 o.k, .string ⟨o.n.toArray⟩, .int .i64 o.a, .int .i64 o.b] 41) := hxY
    have HB1 : Hid (Blk Y b1 #[.int .i64 l0.k, .string ⟨l0.n.toArray⟩, .int .i64 l0.a, .int .i64 l0.b] 39) := hb1
    have HSY : Hid (BK S0 w Y) := hSY
    clear hK F' k0 k3 k8 k9 HAPX HBXX HS0 HM1 b0 hAY hxY hb1 hSY
    go_wp2_with fail
    rename_i K2 hK2
    try rw [show ∀ a : Act, a.put none undef = a from fun _ => rfl]
    have hrest2 : ∀ (a : Act) (f' : Nat → Value) (Z : World) (b2 : Nat), Fr 129 a f' → f' 0 = Value.pointer (some ⟨pb, 0, none⟩) → f' 3 = Value.pointer (some ⟨bx, 0, none⟩) → f' 8 = Value.pointer (some ⟨b1, 0, none⟩) → f' 9 = Value.bool th → f' 10 = Value.pointer (some ⟨b2, 0, none⟩) → f' 11 = Value.bool th → AQ S0 pb hb mh mw B rb me rep per (KNof rep KL) W2l KL W2l C O H es Z → Blk Z bx #[.int .i64 4, .string ⟨n.toArray⟩, .int .i64 c.1, .int .i64 c.2, .int .i64 o.k, .string ⟨o.n.toArray⟩, .int .i64 o.a, .int .i64 o.b] 41 → Blk Z b1 #[.int .i64 l0.k, .string ⟨l0.n.toArray⟩, .int .i64 l0.a, .int .i64 l0.b] 39 → Blk Z b2 #[.int .i64 l0.k, .string ⟨l0.n.toArray⟩, .int .i64 l0.a, .int .i64 l0.b] 39 → BK S0 w Z → K2 a Z := by
      intro a f' Z b2 F' k0 k3 k8 k9 k10 k11 hAZ hxZ hb1 hb2 hSZ
      refine hK2 _ _ ?_
      rw [F'.lit, show ((List.range 129).map f').toArray = #[f' 0, f' 1, f' 2, f' 3, f' 4, f' 5, f' 6, f' 7, f' 8, f' 9, f' 10, f' 11, f' 12, f' 13, f' 14, f' 15, f' 16, f' 17, f' 18, f' 19, f' 20, f' 21, f' 22, f' 23, f' 24, f' 25, f' 26, f' 27, f' 28, f' 29, f' 30, f' 31, f' 32, f' 33, f' 34, f' 35, f' 36, f' 37, f' 38, f' 39, f' 40, f' 41, f' 42, f' 43, f' 44, f' 45, f' 46, f' 47, f' 48, f' 49, f' 50, f' 51, f' 52, f' 53, f' 54, f' 55, f' 56, f' 57, f' 58, f' 59, f' 60, f' 61, f' 62, f' 63, f' 64, f' 65, f' 66, f' 67, f' 68, f' 69, f' 70, f' 71, f' 72, f' 73, f' 74, f' 75, f' 76, f' 77, f' 78, f' 79, f' 80, f' 81, f' 82, f' 83, f' 84, f' 85, f' 86, f' 87, f' 88, f' 89, f' 90, f' 91, f' 92, f' 93, f' 94, f' 95, f' 96, f' 97, f' 98, f' 99, f' 100, f' 101, f' 102, f' 103, f' 104, f' 105, f' 106, f' 107, f' 108, f' 109, f' 110, f' 111, f' 112, f' 113, f' 114, f' 115, f' 116, f' 117, f' 118, f' 119, f' 120, f' 121, f' 122, f' 123, f' 124, f' 125, f' 126, f' 127, f' 128] from rfl, k0, k3, k8, k9, k10, k11]
      have HF : Hid _ := hAZ
      have HFB : Hid _ := hSZ
      have b1c0 : Z.cell? ⟨b1, 0, none⟩ = some (.int .i64 l0.k) := hb1.cell 0
      have b1c1 : Z.cell? ⟨b1, 1, none⟩ = some (.string ⟨l0.n.toArray⟩) := hb1.cell 1
      have b1c2 : Z.cell? ⟨b1, 2, none⟩ = some (.int .i64 l0.a) := hb1.cell 2
      have b1c3 : Z.cell? ⟨b1, 3, none⟩ = some (.int .i64 l0.b) := hb1.cell 3
      have b2c0 : Z.cell? ⟨b2, 0, none⟩ = some (.int .i64 l0.k) := hb2.cell 0
      have b2c1 : Z.cell? ⟨b2, 1, none⟩ = some (.string ⟨l0.n.toArray⟩) := hb2.cell 1
      have b2c2 : Z.cell? ⟨b2, 2, none⟩ = some (.int .i64 l0.a) := hb2.cell 2
      have b2c3 : Z.cell? ⟨b2, 3, none⟩ = some (.int .i64 l0.b) := hb2.cell 3
      clear hK2 F' k0 k3 k8 k9 k10 k11 HAPY HBXY HB1 HSY HM2 hAZ hxZ hb1 hb2 hSZ
      cases th
      · go_wp2_with fail
        go_ret
        exact ⟨rfl, HF.out, HFB.out⟩
      · go_wp2_with fail
        go_ret
        exact ⟨rfl, HF.out, HFB.out⟩
    clear hK2
    obtain ⟨kl, wl, hr3, hz3, hn3⟩ := HAPY.out.r
    refine wp_region_plan (fun wz => wz.cell? ⟨pb, 1, none⟩ = some (.pointer (some ⟨rb, 0, none⟩)) ∧ Blk wz bx #[.int .i64 4, .string ⟨n.toArray⟩, .int .i64 c.1, .int .i64 c.2, .int .i64 o.k, .string ⟨o.n.toArray⟩, .int .i64 o.a, .int .i64 o.b] 41) (fun i => i == 6 || i == 10 || i == 11 || i == 99) 99 (.one 0 (.one 1 (.one 2 (.one 3 (.one 4 (.one 5 (.two 6 10 (.one 7 (.one 8 (.one 9 (.one 10 (.one 11 (.one 12 (.done))))))) (.one 6 (.one 7 (.one 8 (.one 9 (.one 11 (.one 12 (.done)))))))))))))) (by kernel_rfl) rfl (by kernel_rfl) (by kernel_rfl) rfl (by kernel_rfl) ?_
    refine withFrG (N := 129) rfl ?_
    intro a0 f0 F0 hff
    have hs0 : f0 0 = Value.pointer (some ⟨pb, 0, none⟩) := hff 0
    have hs3 : f0 3 = Value.pointer (some ⟨bx, 0, none⟩) := hff 3
    have hs8 : f0 8 = Value.pointer (some ⟨b1, 0, none⟩) := hff 8
    have hs9 : f0 9 = Value.bool th := hff 9
    clear hff
    have HCC : (fun wz => wz.cell? ⟨pb, 1, none⟩ = some (.pointer (some ⟨rb, 0, none⟩)) ∧ Blk wz bx #[.int .i64 4, .string ⟨n.toArray⟩, .int .i64 c.1, .int .i64 c.2, .int .i64 o.k, .string ⟨o.n.toArray⟩, .int .i64 o.a, .int .i64 o.b] 41) ({ Y with drawn := Y.drawn + 1 } : World) := ⟨(AQ.q1 HAPY.out :), HBXY.out⟩
    refine py (k := 0) rfl F0 rfl HCC rfl (by omega) (wanted_none rfl) (v := Value.pointer (some ⟨pb, 0, none⟩)) (fun wr hwr => by simp only [execOp, (F0.eval 0 (by omega)).trans (show _ = Value.pointer (some ⟨pb, 0, none⟩) from by simp [upd, hs0, hs3, hs8, hs9])]; first | rfl | simp [go_sem]) fun a1 F1 => ?_
    refine py (k := 1) rfl F1 rfl HCC rfl (by omega) (wanted_none rfl) (v := Value.pointer (some ⟨pb, 0, none⟩)) (fun wr hwr => by simp only [execOp, (F1.eval 87 (by omega)).trans (show _ = Value.pointer (some ⟨pb, 0, none⟩) from by simp [upd, hs0, hs3, hs8, hs9])]; simp [go_sem]) fun a2 F2 => ?_
    refine py (k := 2) rfl F2 rfl HCC rfl (by omega) (wanted_none rfl) (v := Value.pointer (some ⟨pb, 1, none⟩)) (fun wr hwr => by simp only [execOp, (F2.eval 88 (by omega)).trans (show _ = Value.pointer (some ⟨pb, 0, none⟩) from by simp [upd, hs0, hs3, hs8, hs9])]; simp [go_sem]) fun a3 F3 => ?_
    refine py (k := 3) rfl F3 rfl HCC rfl (by omega) (wanted_none rfl) (v := Value.pointer (some ⟨rb, 0, none⟩)) (fun wr hwr => by simp only [execOp, (F3.eval 89 (by omega)).trans (show _ = Value.pointer (some ⟨pb, 1, none⟩) from by simp [upd, hs0, hs3, hs8, hs9])]; simp [go_sem, hwr.1]) fun a4 F4 => ?_
    refine py (k := 4) rfl F4 rfl HCC rfl (by omega) (wanted_none rfl) (v := Value.pointer (some ⟨bx, 2, none⟩)) (fun wr hwr => by simp only [execOp, (F4.eval 3 (by omega)).trans (show _ = Value.pointer (some ⟨bx, 0, none⟩) from by simp [upd, hs0, hs3, hs8, hs9])]; simp [go_sem]) fun a5 F5 => ?_
    refine py (k := 5) rfl F5 rfl HCC rfl (by omega) (wanted_none rfl) (v := Value.agg #[.int .i64 c.1, .int .i64 c.2]) (fun wr hwr => by simp only [execOp, (F5.eval 91 (by omega)).trans (show _ = Value.pointer (some ⟨bx, 2, none⟩) from by simp [upd, hs0, hs3, hs8, hs9])]; simp [go_sem, show wr.cell? ⟨bx, 2, none⟩ = some (.int .i64 c.1) from hwr.2.cell 2, show wr.cell? ⟨bx, 3, none⟩ = some (.int .i64 c.2) from hwr.2.cell 3]) fun a6 F6 => ?_
    refine pfork HCC ?_ ?_
    · have hA1 := HAPY.out.more (Below.drew (Below.refl Y.heap.size Y))
      have p0 : Blk ({ Y with drawn := Y.drawn + 1 } : World) bx #[.int .i64 4, .string ⟨n.toArray⟩, .int .i64 c.1, .int .i64 c.2, .int .i64 o.k, .string ⟨o.n.toArray⟩, .int .i64 o.a, .int .i64 o.b] 41 := HBXY.out
      have p1 : Blk ({ Y with drawn := Y.drawn + 1 } : World) b1 #[.int .i64 l0.k, .string ⟨l0.n.toArray⟩, .int .i64 l0.a, .int .i64 l0.b] 39 := HB1.out
      have hrW := hr3.more (Below.drew (Below.refl Y.heap.size Y))
      refine pc' (k := 6) rfl F6 rfl rfl (by omega) (wanted_none rfl) (g := 57) (args := #[Value.pointer (some ⟨rb, 0, none⟩), Value.agg #[.int .i64 c.1, .int .i64 c.2]]) (by simp only [execOp, resolve, invoke, List.map_toArray, List.map_cons, List.map_nil, (F6.eval 90 (by omega)).trans (show _ = Value.pointer (some ⟨rb, 0, none⟩) from by simp [upd, hs0, hs3, hs8, hs9]), (F6.eval 92 (by omega)).trans (show _ = Value.agg #[.int .i64 c.1, .int .i64 c.2] from by simp [upd, hs0, hs3, hs8, hs9])]; simp [go_sem, Act.eval]) (HM2.out ({ Y with drawn := Y.drawn + 1 } : World) hrW) ?_
      rintro e v2 ⟨rfl, hp2⟩
      have hA2 := hA1.setR hrW hz3 hn3 hp2
      have q02 : Blk v2 bx #[.int .i64 4, .string ⟨n.toArray⟩, .int .i64 c.1, .int .i64 c.2, .int .i64 o.k, .string ⟨o.n.toArray⟩, .int .i64 o.a, .int .i64 o.b] 41 := hp2.1.blk p0 (RA.nb hrW p0 (by decide) (by decide) (by decide))
      have q12 : Blk v2 b1 #[.int .i64 l0.k, .string ⟨l0.n.toArray⟩, .int .i64 l0.a, .int .i64 l0.b] 39 := hp2.1.blk p1 (RA.nb hrW p1 (by decide) (by decide) (by decide))
      have HC2 : (fun wz => wz.cell? ⟨pb, 1, none⟩ = some (.pointer (some ⟨rb, 0, none⟩)) ∧ Blk wz bx #[.int .i64 4, .string ⟨n.toArray⟩, .int .i64 c.1, .int .i64 c.2, .int .i64 o.k, .string ⟨o.n.toArray⟩, .int .i64 o.a, .int .i64 o.b] 41) v2 := ⟨(AQ.q1 hA2.1 :), q02⟩
      refine ⟨_, rfl, fun ax7 Fx7 => ?_⟩
      refine py (k := 7) rfl Fx7 rfl HC2 rfl (by omega) (wanted_none rfl) (v := Value.tuple #[.agg #[.int .i64 l0.k, .string ⟨l0.n.toArray⟩, .int .i64 l0.a, .int .i64 l0.b], .bool th]) (fun wr hwr => by simp only [execOp, (Fx7.eval 93 (by omega)).trans (show _ = Value.tuple #[.agg #[.int .i64 l0.k, .string ⟨l0.n.toArray⟩, .int .i64 l0.a, .int .i64 l0.b], .bool th] from by simp [upd, hs0, hs3, hs8, hs9])]; first | rfl | simp [go_sem]) fun ax8 Fx8 => ?_
      refine py (k := 8) rfl Fx8 rfl HC2 rfl (by omega) (wanted_none rfl) (v := Value.agg #[.int .i64 l0.k, .string ⟨l0.n.toArray⟩, .int .i64 l0.a, .int .i64 l0.b]) (fun wr hwr => by simp only [execOp, (Fx8.eval 86 (by omega)).trans (show _ = Value.tuple #[.agg #[.int .i64 l0.k, .string ⟨l0.n.toArray⟩, .int .i64 l0.a, .int .i64 l0.b], .bool th] from by simp [upd, hs0, hs3, hs8, hs9])]; simp [go_sem]) fun ax9 Fx9 => ?_
      refine py (k := 9) rfl Fx9 rfl HC2 rfl (by omega) (wanted_none rfl) (v := Value.bool th) (fun wr hwr => by simp only [execOp, (Fx9.eval 86 (by omega)).trans (show _ = Value.tuple #[.agg #[.int .i64 l0.k, .string ⟨l0.n.toArray⟩, .int .i64 l0.a, .int .i64 l0.b], .bool th] from by simp [upd, hs0, hs3, hs8, hs9])]; simp [go_sem]) fun ax10 Fx10 => ?_
      refine pe (k := 10) rfl Fx10 rfl HC2 rfl (by omega) (wanted_none rfl) (v := Value.pointer (some ⟨v2.heap.size, 0, none⟩)) (w1 := v2.alloc (.cells #[.int .i64 0, .string ⟨#[]⟩, .int .i64 0, .int .i64 0] 39)) (by simp only [execOp]; simp [go_sem, zero39]) fun ax11 Fx11 => ?_
      have hbz : Below v2.heap.size v2 (v2.alloc (.cells #[.int .i64 0, .string ⟨#[]⟩, .int .i64 0, .int .i64 0] 39)) := (Below.refl _ _).alloc (Nat.le_refl _) _
      have hBz : Blk (v2.alloc (.cells #[.int .i64 0, .string ⟨#[]⟩, .int .i64 0, .int .i64 0] 39)) v2.heap.size #[.int .i64 0, .string ⟨#[]⟩, .int .i64 0, .int .i64 0] 39 := heap_alloc_new v2 _
      have hA3 := hA2.1.more hbz
      have r0 := Blk.below q02 hbz (Blk.lt q02)
      have s0lt := Blk.lt q02
      have q0lt := s0lt
      have r1 := Blk.below q12 hbz (Blk.lt q12)
      have s1lt := Blk.lt q12
      have q1lt := s1lt
      have HC3 : (fun wz => wz.cell? ⟨pb, 1, none⟩ = some (.pointer (some ⟨rb, 0, none⟩)) ∧ Blk wz bx #[.int .i64 4, .string ⟨n.toArray⟩, .int .i64 c.1, .int .i64 c.2, .int .i64 o.k, .string ⟨o.n.toArray⟩, .int .i64 o.a, .int .i64 o.b] 41) (v2.alloc (.cells #[.int .i64 0, .string ⟨#[]⟩, .int .i64 0, .int .i64 0] 39)) := ⟨(AQ.q1 hA3 :), r0⟩
      obtain ⟨hc4, hBy⟩ := chg4 hBz l0
      have hA4 := hA3.setO hBz hA2.1.low hc4
      have q04 := hc4.blk r0 (r0.ne_t hBz (by decide))
      have q14 := hc4.blk r1 (fun e => by have := q1lt; omega)
      refine ps (k := 11) rfl rfl HC3 rfl (wanted_none rfl) (store4 hBz l0 rfl ((Fx11.eval 10 (by omega)).trans (show _ = Value.pointer (some ⟨v2.heap.size, 0, none⟩) from by simp [upd, hs0, hs3, hs8, hs9])) ((Fx11.eval 94 (by omega)).trans (show _ = Value.agg #[.int .i64 l0.k, .string ⟨l0.n.toArray⟩, .int .i64 l0.a, .int .i64 l0.b] from by simp [upd, hs0, hs3, hs8, hs9]))) ?_
      have HC4 : (fun wz => wz.cell? ⟨pb, 1, none⟩ = some (.pointer (some ⟨rb, 0, none⟩)) ∧ Blk wz bx #[.int .i64 4, .string ⟨n.toArray⟩, .int .i64 c.1, .int .i64 c.2, .int .i64 o.k, .string ⟨o.n.toArray⟩, .int .i64 o.a, .int .i64 o.b] 41) _ := ⟨(AQ.q1 hA4.1 :), q04⟩
      refine py (k := 12) rfl Fx11 rfl HC4 rfl (by omega) (wanted_none rfl) (v := Value.bool th) (fun wr hwr => by simp only [execOp, (Fx11.eval 95 (by omega)).trans (show _ = Value.bool th from by simp [upd, hs0, hs3, hs8, hs9])]; first | rfl | simp [go_sem]) fun aw12 Fw12 => ?_
      refine pdone (fun _ => HC4) ?_
      exact hrest2 _ _ _ _ Fw12 (show _ = Value.pointer (some ⟨pb, 0, none⟩) from by simp [upd, hs0, hs3, hs8, hs9]) (show _ = Value.pointer (some ⟨bx, 0, none⟩) from by simp [upd, hs0, hs3, hs8, hs9]) (show _ = Value.pointer (some ⟨b1, 0, none⟩) from by simp [upd, hs0, hs3, hs8, hs9]) (show _ = Value.bool th from by simp [upd, hs0, hs3, hs8, hs9]) (show _ = Value.pointer (some ⟨v2.heap.size, 0, none⟩) from by simp [upd, hs0, hs3, hs8, hs9]) (show _ = Value.bool th from by simp [upd, hs0, hs3, hs8, hs9]) hA4.1 q04 q14 hBy ((((HSY.out.trans (BK.dr S0 Y)).trans hA2.2).trans (BK.of hbz hA2.1.low.1)).trans hA4.2)
    · refine pe' (k := 10) rfl F6 rfl rfl (by omega) (wanted_none rfl) (v := Value.pointer (some ⟨Y.heap.size, 0, none⟩)) (w1 := (({ Y with drawn := Y.drawn + 1 } : World).alloc (.cells #[.int .i64 0, .string ⟨#[]⟩, .int .i64 0, .int .i64 0] 39))) (by simp only [execOp]; simp [go_sem, zero39]) fun ay7 Fy7 => ?_
      have hbz : Below Y.heap.size Y (({ Y with drawn := Y.drawn + 1 } : World).alloc (.cells #[.int .i64 0, .string ⟨#[]⟩, .int .i64 0, .int .i64 0] 39)) := (Below.drew (Below.refl Y.heap.size Y)).alloc (Nat.le_refl _) _
      have hBz : Blk (({ Y with drawn := Y.drawn + 1 } : World).alloc (.cells #[.int .i64 0, .string ⟨#[]⟩, .int .i64 0, .int .i64 0] 39)) Y.heap.size #[.int .i64 0, .string ⟨#[]⟩, .int .i64 0, .int .i64 0] 39 := heap_alloc_new ({ Y with drawn := Y.drawn + 1 } : World) _
      have hA1 := HAPY.out.more hbz
      have p0 : Blk (({ Y with drawn := Y.drawn + 1 } : World).alloc (.cells #[.int .i64 0, .string ⟨#[]⟩, .int .i64 0, .int .i64 0] 39)) bx #[.int .i64 4, .string ⟨n.toArray⟩, .int .i64 c.1, .int .i64 c.2, .int .i64 o.k, .string ⟨o.n.toArray⟩, .int .i64 o.a, .int .i64 o.b] 41 := Blk.below HBXY.out hbz (Blk.lt HBXY.out)
      have q0lt := Blk.lt HBXY.out
      have p1 : Blk (({ Y with drawn := Y.drawn + 1 } : World).alloc (.cells #[.int .i64 0, .string ⟨#[]⟩, .int .i64 0, .int .i64 0] 39)) b1 #[.int .i64 l0.k, .string ⟨l0.n.toArray⟩, .int .i64 l0.a, .int .i64 l0.b] 39 := Blk.below HB1.out hbz (Blk.lt HB1.out)
      have q1lt := Blk.lt HB1.out
      have HC1 : (fun wz => wz.cell? ⟨pb, 1, none⟩ = some (.pointer (some ⟨rb, 0, none⟩)) ∧ Blk wz bx #[.int .i64 4, .string ⟨n.toArray⟩, .int .i64 c.1, .int .i64 c.2, .int .i64 o.k, .string ⟨o.n.toArray⟩, .int .i64 o.a, .int .i64 o.b] 41) (({ Y with drawn := Y.drawn + 1 } : World).alloc (.cells #[.int .i64 0, .string ⟨#[]⟩, .int .i64 0, .int .i64 0] 39)) := ⟨(AQ.q1 hA1 :), p0⟩
      have hrW := hr3.more hbz
      refine pc (k := 6) rfl Fy7 rfl HC1 rfl (by omega) (wanted_none rfl) (g := 57) (args := #[Value.pointer (some ⟨rb, 0, none⟩), Value.agg #[.int .i64 c.1, .int .i64 c.2]]) (by simp only [execOp, resolve, invoke, List.map_toArray, List.map_cons, List.map_nil, (Fy7.eval 90 (by omega)).trans (show _ = Value.pointer (some ⟨rb, 0, none⟩) from by simp [upd, hs0, hs3, hs8, hs9]), (Fy7.eval 92 (by omega)).trans (show _ = Value.agg #[.int .i64 c.1, .int .i64 c.2] from by simp [upd, hs0, hs3, hs8, hs9])]; simp [go_sem, Act.eval]) (HM2.out (({ Y with drawn := Y.drawn + 1 } : World).alloc (.cells #[.int .i64 0, .string ⟨#[]⟩, .int .i64 0, .int .i64 0] 39)) hrW) ?_
      rintro e v2 ⟨rfl, hp2⟩
      have hA2 := hA1.setR hrW hz3 hn3 hp2
      have q02 : Blk v2 bx #[.int .i64 4, .string ⟨n.toArray⟩, .int .i64 c.1, .int .i64 c.2, .int .i64 o.k, .string ⟨o.n.toArray⟩, .int .i64 o.a, .int .i64 o.b] 41 := hp2.1.blk p0 (RA.nb hrW p0 (by decide) (by decide) (by decide))
      have q12 : Blk v2 b1 #[.int .i64 l0.k, .string ⟨l0.n.toArray⟩, .int .i64 l0.a, .int .i64 l0.b] 39 := hp2.1.blk p1 (RA.nb hrW p1 (by decide) (by decide) (by decide))
      have z2 : Blk v2 Y.heap.size #[.int .i64 0, .string ⟨#[]⟩, .int .i64 0, .int .i64 0] 39 := hp2.1.blk hBz (RA.nb hrW hBz (by decide) (by decide) (by decide))
      have HC2 : (fun wz => wz.cell? ⟨pb, 1, none⟩ = some (.pointer (some ⟨rb, 0, none⟩)) ∧ Blk wz bx #[.int .i64 4, .string ⟨n.toArray⟩, .int .i64 c.1, .int .i64 c.2, .int .i64 o.k, .string ⟨o.n.toArray⟩, .int .i64 o.a, .int .i64 o.b] 41) v2 := ⟨(AQ.q1 hA2.1 :), q02⟩
      refine ⟨_, rfl, fun ay8 Fy8 => ?_⟩
      refine py (k := 7) rfl Fy8 rfl HC2 rfl (by omega) (wanted_none rfl) (v := Value.tuple #[.agg #[.int .i64 l0.k, .string ⟨l0.n.toArray⟩, .int .i64 l0.a, .int .i64 l0.b], .bool th]) (fun wr hwr => by simp only [execOp, (Fy8.eval 93 (by omega)).trans (show _ = Value.tuple #[.agg #[.int .i64 l0.k, .string ⟨l0.n.toArray⟩, .int .i64 l0.a, .int .i64 l0.b], .bool th] from by simp [upd, hs0, hs3, hs8, hs9])]; first | rfl | simp [go_sem]) fun ay9 Fy9 => ?_
      refine py (k := 8) rfl Fy9 rfl HC2 rfl (by omega) (wanted_none rfl) (v := Value.agg #[.int .i64 l0.k, .string ⟨l0.n.toArray⟩, .int .i64 l0.a, .int .i64 l0.b]) (fun wr hwr => by simp only [execOp, (Fy9.eval 86 (by omega)).trans (show _ = Value.tuple #[.agg #[.int .i64 l0.k, .string ⟨l0.n.toArray⟩, .int .i64 l0.a, .int .i64 l0.b], .bool th] from by simp [upd, hs0, hs3, hs8, hs9])]; simp [go_sem]) fun ay10 Fy10 => ?_
      refine py (k := 9) rfl Fy10 rfl HC2 rfl (by omega) (wanted_none rfl) (v := Value.bool th) (fun wr hwr => by simp only [execOp, (Fy10.eval 86 (by omega)).trans (show _ = Value.tuple #[.agg #[.int .i64 l0.k, .string ⟨l0.n.toArray⟩, .int .i64 l0.a, .int .i64 l0.b], .bool th] from by simp [upd, hs0, hs3, hs8, hs9])]; simp [go_sem]) fun ay11 Fy11 => ?_
      obtain ⟨hc4, hBy⟩ := chg4 z2 l0
      have hA4 := hA2.1.setO z2 HAPY.out.low hc4
      have q04 := hc4.blk q02 (q02.ne_t z2 (by decide))
      have q14 := hc4.blk q12 (fun e => by have := q1lt; omega)
      refine ps (k := 11) rfl rfl HC2 rfl (wanted_none rfl) (store4 z2 l0 rfl ((Fy11.eval 10 (by omega)).trans (show _ = Value.pointer (some ⟨Y.heap.size, 0, none⟩) from by simp [upd, hs0, hs3, hs8, hs9])) ((Fy11.eval 94 (by omega)).trans (show _ = Value.agg #[.int .i64 l0.k, .string ⟨l0.n.toArray⟩, .int .i64 l0.a, .int .i64 l0.b] from by simp [upd, hs0, hs3, hs8, hs9]))) ?_
      have HC4 : (fun wz => wz.cell? ⟨pb, 1, none⟩ = some (.pointer (some ⟨rb, 0, none⟩)) ∧ Blk wz bx #[.int .i64 4, .string ⟨n.toArray⟩, .int .i64 c.1, .int .i64 c.2, .int .i64 o.k, .string ⟨o.n.toArray⟩, .int .i64 o.a, .int .i64 o.b] 41) _ := ⟨(AQ.q1 hA4.1 :), q04⟩
      refine py (k := 12) rfl Fy11 rfl HC4 rfl (by omega) (wanted_none rfl) (v := Value.bool th) (fun wr hwr => by simp only [execOp, (Fy11.eval 95 (by omega)).trans (show _ = Value.bool th from by simp [upd, hs0, hs3, hs8, hs9])]; first | rfl | simp [go_sem]) fun aw12 Fw12 => ?_
      refine pdone (fun _ => HC4) ?_
      exact hrest2 _ _ _ _ Fw12 (show _ = Value.pointer (some ⟨pb, 0, none⟩) from by simp [upd, hs0, hs3, hs8, hs9]) (show _ = Value.pointer (some ⟨bx, 0, none⟩) from by simp [upd, hs0, hs3, hs8, hs9]) (show _ = Value.pointer (some ⟨b1, 0, none⟩) from by simp [upd, hs0, hs3, hs8, hs9]) (show _ = Value.bool th from by simp [upd, hs0, hs3, hs8, hs9]) (show _ = Value.pointer (some ⟨Y.heap.size, 0, none⟩) from by simp [upd, hs0, hs3, hs8, hs9]) (show _ = Value.bool th from by simp [upd, hs0, hs3, hs8, hs9]) hA4.1 q04 q14 hBy (((HSY.out.trans (BK.of hbz HAPY.out.low.1)).trans hA2.2).trans hA4.2)

  clear hK
  refine wp_region_plan (fun wz => wz.cell? ⟨pb, 0, none⟩ = some (.pointer (some ⟨hb, 0, none⟩)) ∧ Blk wz bx #[.int .i64 4, .string ⟨n.toArray⟩, .int .i64 c.1, .int .i64 c.2, .int .i64 o.k, .string ⟨o.n.toArray⟩, .int .i64 o.a, .int .i64 o.b] 41) (fun i => i == 6 || i == 10 || i == 11 || i == 99) 99 (.one 0 (.one 1 (.one 2 (.one 3 (.one 4 (.one 5 (.two 6 10 (.one 7 (.one 8 (.one 9 (.one 10 (.one 11 (.one 12 (.done))))))) (.one 6 (.one 7 (.one 8 (.one 9 (.one 11 (.one 12 (.done)))))))))))))) (by kernel_rfl) rfl (by kernel_rfl) (by kernel_rfl) rfl (by kernel_rfl) ?_
  refine withFrG (N := 129) rfl ?_
  intro a0 f0 F0 hff
  have hs0 : f0 0 = Value.pointer (some ⟨pb, 0, none⟩) := hff 0
  have hs3 : f0 3 = Value.pointer (some ⟨bx, 0, none⟩) := hff 3
  clear hff
  have HCC : (fun wz => wz.cell? ⟨pb, 0, none⟩ = some (.pointer (some ⟨hb, 0, none⟩)) ∧ Blk wz bx #[.int .i64 4, .string ⟨n.toArray⟩, .int .i64 c.1, .int .i64 c.2, .int .i64 o.k, .string ⟨o.n.toArray⟩, .int .i64 o.a, .int .i64 o.b] 41) ({ X with drawn := X.drawn + 1 } : World) := ⟨(AQ.q0 HAPX.out :), HBXX.out⟩
  refine py (k := 0) rfl F0 rfl HCC rfl (by omega) (wanted_none rfl) (v := Value.pointer (some ⟨pb, 0, none⟩)) (fun wr hwr => by simp only [execOp, (F0.eval 0 (by omega)).trans (show _ = Value.pointer (some ⟨pb, 0, none⟩) from by simp [upd, hs0, hs3])]; first | rfl | simp [go_sem]) fun a1 F1 => ?_
  refine py (k := 1) rfl F1 rfl HCC rfl (by omega) (wanted_none rfl) (v := Value.pointer (some ⟨pb, 0, none⟩)) (fun wr hwr => by simp only [execOp, (F1.eval 77 (by omega)).trans (show _ = Value.pointer (some ⟨pb, 0, none⟩) from by simp [upd, hs0, hs3])]; simp [go_sem]) fun a2 F2 => ?_
  refine py (k := 2) rfl F2 rfl HCC rfl (by omega) (wanted_none rfl) (v := Value.pointer (some ⟨pb, 0, none⟩)) (fun wr hwr => by simp only [execOp, (F2.eval 78 (by omega)).trans (show _ = Value.pointer (some ⟨pb, 0, none⟩) from by simp [upd, hs0, hs3])]; simp [go_sem]) fun a3 F3 => ?_
  refine py (k := 3) rfl F3 rfl HCC rfl (by omega) (wanted_none rfl) (v := Value.pointer (some ⟨hb, 0, none⟩)) (fun wr hwr => by simp only [execOp, (F3.eval 79 (by omega)).trans (show _ = Value.pointer (some ⟨pb, 0, none⟩) from by simp [upd, hs0, hs3])]; simp [go_sem, hwr.1]) fun a4 F4 => ?_
  refine py (k := 4) rfl F4 rfl HCC rfl (by omega) (wanted_none rfl) (v := Value.pointer (some ⟨bx, 2, none⟩)) (fun wr hwr => by simp only [execOp, (F4.eval 3 (by omega)).trans (show _ = Value.pointer (some ⟨bx, 0, none⟩) from by simp [upd, hs0, hs3])]; simp [go_sem]) fun a5 F5 => ?_
  refine py (k := 5) rfl F5 rfl HCC rfl (by omega) (wanted_none rfl) (v := Value.agg #[.int .i64 c.1, .int .i64 c.2]) (fun wr hwr => by simp only [execOp, (F5.eval 81 (by omega)).trans (show _ = Value.pointer (some ⟨bx, 2, none⟩) from by simp [upd, hs0, hs3])]; simp [go_sem, show wr.cell? ⟨bx, 2, none⟩ = some (.int .i64 c.1) from hwr.2.cell 2, show wr.cell? ⟨bx, 3, none⟩ = some (.int .i64 c.2) from hwr.2.cell 3]) fun a6 F6 => ?_
  refine pfork HCC ?_ ?_
  · have hA1 := HAPX.out.more (Below.drew (Below.refl X.heap.size X))
    have p0 : Blk ({ X with drawn := X.drawn + 1 } : World) bx #[.int .i64 4, .string ⟨n.toArray⟩, .int .i64 c.1, .int .i64 c.2, .int .i64 o.k, .string ⟨o.n.toArray⟩, .int .i64 o.a, .int .i64 o.b] 41 := HBXX.out
    refine pc' (k := 6) rfl F6 rfl rfl (by omega) (wanted_none rfl) (g := 18) (args := #[Value.pointer (some ⟨hb, 0, none⟩), Value.agg #[.int .i64 c.1, .int .i64 c.2]]) (by simp only [execOp, resolve, invoke, List.map_toArray, List.map_cons, List.map_nil, (F6.eval 80 (by omega)).trans (show _ = Value.pointer (some ⟨hb, 0, none⟩) from by simp [upd, hs0, hs3]), (F6.eval 82 (by omega)).trans (show _ = Value.agg #[.int .i64 c.1, .int .i64 c.2] from by simp [upd, hs0, hs3])]; simp [go_sem, Act.eval]) (HM1.out ({ X with drawn := X.drawn + 1 } : World) hA1.t) ?_
    rintro e v2 ⟨rfl, hT2, hc2⟩
    have hA2 := hA1.setW hT2 hc2
    have q02 : Blk v2 bx #[.int .i64 4, .string ⟨n.toArray⟩, .int .i64 c.1, .int .i64 c.2, .int .i64 o.k, .string ⟨o.n.toArray⟩, .int .i64 o.a, .int .i64 o.b] 41 := hc2.blk p0 (hA1.t.wm.ne_b p0)
    have HC2 : (fun wz => wz.cell? ⟨pb, 0, none⟩ = some (.pointer (some ⟨hb, 0, none⟩)) ∧ Blk wz bx #[.int .i64 4, .string ⟨n.toArray⟩, .int .i64 c.1, .int .i64 c.2, .int .i64 o.k, .string ⟨o.n.toArray⟩, .int .i64 o.a, .int .i64 o.b] 41) v2 := ⟨(AQ.q0 hA2.1 :), q02⟩
    refine ⟨_, rfl, fun ax7 Fx7 => ?_⟩
    refine py (k := 7) rfl Fx7 rfl HC2 rfl (by omega) (wanted_none rfl) (v := Value.tuple #[.agg #[.int .i64 l0.k, .string ⟨l0.n.toArray⟩, .int .i64 l0.a, .int .i64 l0.b], .bool th]) (fun wr hwr => by simp only [execOp, (Fx7.eval 83 (by omega)).trans (show _ = Value.tuple #[.agg #[.int .i64 l0.k, .string ⟨l0.n.toArray⟩, .int .i64 l0.a, .int .i64 l0.b], .bool th] from by simp [upd, hs0, hs3])]; first | rfl | simp [go_sem]) fun ax8 Fx8 => ?_
    refine py (k := 8) rfl Fx8 rfl HC2 rfl (by omega) (wanted_none rfl) (v := Value.agg #[.int .i64 l0.k, .string ⟨l0.n.toArray⟩, .int .i64 l0.a, .int .i64 l0.b]) (fun wr hwr => by simp only [execOp, (Fx8.eval 76 (by omega)).trans (show _ = Value.tuple #[.agg #[.int .i64 l0.k, .string ⟨l0.n.toArray⟩, .int .i64 l0.a, .int .i64 l0.b], .bool th] from by simp [upd, hs0, hs3])]; simp [go_sem]) fun ax9 Fx9 => ?_
    refine py (k := 9) rfl Fx9 rfl HC2 rfl (by omega) (wanted_none rfl) (v := Value.bool th) (fun wr hwr => by simp only [execOp, (Fx9.eval 76 (by omega)).trans (show _ = Value.tuple #[.agg #[.int .i64 l0.k, .string ⟨l0.n.toArray⟩, .int .i64 l0.a, .int .i64 l0.b], .bool th] from by simp [upd, hs0, hs3])]; simp [go_sem]) fun ax10 Fx10 => ?_
    refine pe (k := 10) rfl Fx10 rfl HC2 rfl (by omega) (wanted_none rfl) (v := Value.pointer (some ⟨v2.heap.size, 0, none⟩)) (w1 := v2.alloc (.cells #[.int .i64 0, .string ⟨#[]⟩, .int .i64 0, .int .i64 0] 39)) (by simp only [execOp]; simp [go_sem, zero39]) fun ax11 Fx11 => ?_
    have hbz : Below v2.heap.size v2 (v2.alloc (.cells #[.int .i64 0, .string ⟨#[]⟩, .int .i64 0, .int .i64 0] 39)) := (Below.refl _ _).alloc (Nat.le_refl _) _
    have hBz : Blk (v2.alloc (.cells #[.int .i64 0, .string ⟨#[]⟩, .int .i64 0, .int .i64 0] 39)) v2.heap.size #[.int .i64 0, .string ⟨#[]⟩, .int .i64 0, .int .i64 0] 39 := heap_alloc_new v2 _
    have hA3 := hA2.1.more hbz
    have r0 := Blk.below q02 hbz (Blk.lt q02)
    have s0lt := Blk.lt q02
    have q0lt := s0lt
    have HC3 : (fun wz => wz.cell? ⟨pb, 0, none⟩ = some (.pointer (some ⟨hb, 0, none⟩)) ∧ Blk wz bx #[.int .i64 4, .string ⟨n.toArray⟩, .int .i64 c.1, .int .i64 c.2, .int .i64 o.k, .string ⟨o.n.toArray⟩, .int .i64 o.a, .int .i64 o.b] 41) (v2.alloc (.cells #[.int .i64 0, .string ⟨#[]⟩, .int .i64 0, .int .i64 0] 39)) := ⟨(AQ.q0 hA3 :), r0⟩
    obtain ⟨hc4, hBy⟩ := chg4 hBz l0
    have hA4 := hA3.setO hBz hA2.1.low hc4
    have q04 := hc4.blk r0 (r0.ne_t hBz (by decide))
    refine ps (k := 11) rfl rfl HC3 rfl (wanted_none rfl) (store4 hBz l0 rfl ((Fx11.eval 8 (by omega)).trans (show _ = Value.pointer (some ⟨v2.heap.size, 0, none⟩) from by simp [upd, hs0, hs3])) ((Fx11.eval 84 (by omega)).trans (show _ = Value.agg #[.int .i64 l0.k, .string ⟨l0.n.toArray⟩, .int .i64 l0.a, .int .i64 l0.b] from by simp [upd, hs0, hs3]))) ?_
    have HC4 : (fun wz => wz.cell? ⟨pb, 0, none⟩ = some (.pointer (some ⟨hb, 0, none⟩)) ∧ Blk wz bx #[.int .i64 4, .string ⟨n.toArray⟩, .int .i64 c.1, .int .i64 c.2, .int .i64 o.k, .string ⟨o.n.toArray⟩, .int .i64 o.a, .int .i64 o.b] 41) _ := ⟨(AQ.q0 hA4.1 :), q04⟩
    refine py (k := 12) rfl Fx11 rfl HC4 rfl (by omega) (wanted_none rfl) (v := Value.bool th) (fun wr hwr => by simp only [execOp, (Fx11.eval 85 (by omega)).trans (show _ = Value.bool th from by simp [upd, hs0, hs3])]; first | rfl | simp [go_sem]) fun aw12 Fw12 => ?_
    refine pdone (fun _ => HC4) ?_
    exact hrest _ _ _ _ Fw12 (show _ = Value.pointer (some ⟨pb, 0, none⟩) from by simp [upd, hs0, hs3]) (show _ = Value.pointer (some ⟨bx, 0, none⟩) from by simp [upd, hs0, hs3]) (show _ = Value.pointer (some ⟨v2.heap.size, 0, none⟩) from by simp [upd, hs0, hs3]) (show _ = Value.bool th from by simp [upd, hs0, hs3]) hA4.1 q04 hBy ((((HS0.out.trans (BK.dr S0 X)).trans hA2.2).trans (BK.of hbz hA2.1.low.1)).trans hA4.2)
  · refine pe' (k := 10) rfl F6 rfl rfl (by omega) (wanted_none rfl) (v := Value.pointer (some ⟨X.heap.size, 0, none⟩)) (w1 := (({ X with drawn := X.drawn + 1 } : World).alloc (.cells #[.int .i64 0, .string ⟨#[]⟩, .int .i64 0, .int .i64 0] 39))) (by simp only [execOp]; simp [go_sem, zero39]) fun ay7 Fy7 => ?_
    have hbz : Below X.heap.size X (({ X with drawn := X.drawn + 1 } : World).alloc (.cells #[.int .i64 0, .string ⟨#[]⟩, .int .i64 0, .int .i64 0] 39)) := (Below.drew (Below.refl X.heap.size X)).alloc (Nat.le_refl _) _
    have hBz : Blk (({ X with drawn := X.drawn + 1 } : World).alloc (.cells #[.int .i64 0, .string ⟨#[]⟩, .int .i64 0, .int .i64 0] 39)) X.heap.size #[.int .i64 0, .string ⟨#[]⟩, .int .i64 0, .int .i64 0] 39 := heap_alloc_new ({ X with drawn := X.drawn + 1 } : World) _
    have hA1 := HAPX.out.more hbz
    have p0 : Blk (({ X with drawn := X.drawn + 1 } : World).alloc (.cells #[.int .i64 0, .string ⟨#[]⟩, .int .i64 0, .int .i64 0] 39)) bx #[.int .i64 4, .string ⟨n.toArray⟩, .int .i64 c.1, .int .i64 c.2, .int .i64 o.k, .string ⟨o.n.toArray⟩, .int .i64 o.a, .int .i64 o.b] 41 := Blk.below HBXX.out hbz (Blk.lt HBXX.out)
    have q0lt := Blk.lt HBXX.out
    have HC1 : (fun wz => wz.cell? ⟨pb, 0, none⟩ = some (.pointer (some ⟨hb, 0, none⟩)) ∧ Blk wz bx #[.int .i64 4, .string ⟨n.toArray⟩, .int .i64 c.1, .int .i64 c.2, .int .i64 o.k, .string ⟨o.n.toArray⟩, .int .i64 o.a, .int .i64 o.b] 41) (({ X with drawn := X.drawn + 1 } : World).alloc (.cells #[.int .i64 0, .string ⟨#[]⟩, .int .i64 0, .int .i64 0] 39)) := ⟨(AQ.q0 hA1 :), p0⟩
    refine pc (k := 6) rfl Fy7 rfl HC1 rfl (by omega) (wanted_none rfl) (g := 18) (args := #[Value.pointer (some ⟨hb, 0, none⟩), Value.agg #[.int .i64 c.1, .int .i64 c.2]]) (by simp only [execOp, resolve, invoke, List.map_toArray, List.map_cons, List.map_nil, (Fy7.eval 80 (by omega)).trans (show _ = Value.pointer (some ⟨hb, 0, none⟩) from by simp [upd, hs0, hs3]), (Fy7.eval 82 (by omega)).trans (show _ = Value.agg #[.int .i64 c.1, .int .i64 c.2] from by simp [upd, hs0, hs3])]; simp [go_sem, Act.eval]) (HM1.out (({ X with drawn := X.drawn + 1 } : World).alloc (.cells #[.int .i64 0, .string ⟨#[]⟩, .int .i64 0, .int .i64 0] 39)) hA1.t) ?_
    rintro e v2 ⟨rfl, hT2, hc2⟩
    have hA2 := hA1.setW hT2 hc2
    have q02 : Blk v2 bx #[.int .i64 4, .string ⟨n.toArray⟩, .int .i64 c.1, .int .i64 c.2, .int .i64 o.k, .string ⟨o.n.toArray⟩, .int .i64 o.a, .int .i64 o.b] 41 := hc2.blk p0 (hA1.t.wm.ne_b p0)
    have z2 : Blk v2 X.heap.size #[.int .i64 0, .string ⟨#[]⟩, .int .i64 0, .int .i64 0] 39 := hc2.blk hBz (hA1.t.wm.ne_b hBz)
    have HC2 : (fun wz => wz.cell? ⟨pb, 0, none⟩ = some (.pointer (some ⟨hb, 0, none⟩)) ∧ Blk wz bx #[.int .i64 4, .string ⟨n.toArray⟩, .int .i64 c.1, .int .i64 c.2, .int .i64 o.k, .string ⟨o.n.toArray⟩, .int .i64 o.a, .int .i64 o.b] 41) v2 := ⟨(AQ.q0 hA2.1 :), q02⟩
    refine ⟨_, rfl, fun ay8 Fy8 => ?_⟩
    refine py (k := 7) rfl Fy8 rfl HC2 rfl (by omega) (wanted_none rfl) (v := Value.tuple #[.agg #[.int .i64 l0.k, .string ⟨l0.n.toArray⟩, .int .i64 l0.a, .int .i64 l0.b], .bool th]) (fun wr hwr => by simp only [execOp, (Fy8.eval 83 (by omega)).trans (show _ = Value.tuple #[.agg #[.int .i64 l0.k, .string ⟨l0.n.toArray⟩, .int .i64 l0.a, .int .i64 l0.b], .bool th] from by simp [upd, hs0, hs3])]; first | rfl | simp [go_sem]) fun ay9 Fy9 => ?_
    refine py (k := 8) rfl Fy9 rfl HC2 rfl (by omega) (wanted_none rfl) (v := Value.agg #[.int .i64 l0.k, .string ⟨l0.n.toArray⟩, .int .i64 l0.a, .int .i64 l0.b]) (fun wr hwr => by simp only [execOp, (Fy9.eval 76 (by omega)).trans (show _ = Value.tuple #[.agg #[.int .i64 l0.k, .string ⟨l0.n.toArray⟩, .int .i64 l0.a, .int .i64 l0.b], .bool th] from by simp [upd, hs0, hs3])]; simp [go_sem]) fun ay10 Fy10 => ?_
    refine py (k := 9) rfl Fy10 rfl HC2 rfl (by omega) (wanted_none rfl) (v := Value.bool th) (fun wr hwr => by simp only [execOp, (Fy10.eval 76 (by omega)).trans (show _ = Value.tuple #[.agg #[.int .i64 l0.k, .string ⟨l0.n.toArray⟩, .int .i64 l0.a, .int .i64 l0.b], .bool th] from by simp [upd, hs0, hs3])]; simp [go_sem]) fun ay11 Fy11 => ?_
    obtain ⟨hc4, hBy⟩ := chg4 z2 l0
    have hA4 := hA2.1.setO z2 HAPX.out.low hc4
    have q04 := hc4.blk q02 (q02.ne_t z2 (by decide))
    refine ps (k := 11) rfl rfl HC2 rfl (wanted_none rfl) (store4 z2 l0 rfl ((Fy11.eval 8 (by omega)).trans (show _ = Value.pointer (some ⟨X.heap.size, 0, none⟩) from by simp [upd, hs0, hs3])) ((Fy11.eval 84 (by omega)).trans (show _ = Value.agg #[.int .i64 l0.k, .string ⟨l0.n.toArray⟩, .int .i64 l0.a, .int .i64 l0.b] from by simp [upd, hs0, hs3]))) ?_
    have HC4 : (fun wz => wz.cell? ⟨pb, 0, none⟩ = some (.pointer (some ⟨hb, 0, none⟩)) ∧ Blk wz bx #[.int .i64 4, .string ⟨n.toArray⟩, .int .i64 c.1, .int .i64 c.2, .int .i64 o.k, .string ⟨o.n.toArray⟩, .int .i64 o.a, .int .i64 o.b] 41) _ := ⟨(AQ.q0 hA4.1 :), q04⟩
    refine py (k := 12) rfl Fy11 rfl HC4 rfl (by omega) (wanted_none rfl) (v := Value.bool th) (fun wr hwr => by simp only [execOp, (Fy11.eval 85 (by omega)).trans (show _ = Value.bool th from by simp [upd, hs0, hs3])]; first | rfl | simp [go_sem]) fun aw12 Fw12 => ?_
    refine pdone (fun _ => HC4) ?_
    exact hrest _ _ _ _ Fw12 (show _ = Value.pointer (some ⟨pb, 0, none⟩) from by simp [upd, hs0, hs3]) (show _ = Value.pointer (some ⟨bx, 0, none⟩) from by simp [upd, hs0, hs3]) (show _ = Value.pointer (some ⟨X.heap.size, 0, none⟩) from by simp [upd, hs0, hs3]) (show _ = Value.bool th from by simp [upd, hs0, hs3]) hA4.1 q04 hBy (((HS0.out.trans (BK.of hbz HAPX.out.low.1)).trans hA2.2).trans hA4.2)

end Go.Proofs.Ytbjlaloofpdbfaa
