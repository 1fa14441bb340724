import Derived.Test.YtbjlaloofpdbfaaP3
namespace Go.Proofs.Ytbjlaloofpdbfaa
open Go.RowKit Go.PlainAid
set_option linter.unusedVariables false
set_option linter.unusedSimpArgs false
/-- Nothing below is changed, and no op that lies anywhere. -/
structure BK (S0 : Nat) (w w' : World) : Prop where
  lo : Below S0 w w'
  op : ∀ b D, Blk w b D 41 → Blk w' b D 41
theorem BK.trans {S0 : Nat} {a b c : World} (h : BK S0 a b) (k : BK S0 b c) : BK S0 a c := ⟨h.lo.trans k.lo, fun x D hB => k.op x D (h.op x D hB)⟩
theorem BK.of {S0 : Nat} {w w' : World} (h : Below w.heap.size w w') (hl : S0 ≤ w.heap.size) : BK S0 w w' := ⟨h.mono hl, fun b D hB => Blk.below hB h (Blk.lt hB)⟩
theorem BK.dr (S0 : Nat) (w : World) : BK S0 w ({ w with drawn := w.drawn + 1 } : World) := ⟨Below.drew (Below.refl S0 w), fun b D hB => hB⟩
/-- Both tables and their pair. -/
structure AP (S0 pb hb mh mw B rb : Nat) (me rep per : Int) (KN : List (List UInt8 × Int)) (WT : List ((Int × Int) × OpA)) (KL : List (List UInt8)) (WL : List ((Int × Int) × OpA)) (mk : Int) (lt wt lc wc : Value) (w : World) : Prop where
  p : Blk w pb (pairV hb rb mk (.slice none 0 0) (.slice none 0 0) (.slice none 0 0) (.slice none 0 0) lt wt lc wc) 67
  t : Tb hb mh mw me rep per KN WT w
  r : ∃ kl wl, RT B rb kl wl me rep per KL WL w
  lo : S0 ≤ pb ∧ S0 ≤ mh ∧ S0 ≤ mw ∧ S0 ≤ B
  low : S0 ≤ w.heap.size
section
variable {S0 pb hb mh mw B rb : Nat} {me rep per mk : Int} {KN : List (List UInt8 × Int)} {KL : List (List UInt8)} {WT WL : List ((Int × Int) × OpA)} {lt wt lc wc : Value} {KN' : List (List UInt8 × Int)} {KL' : List (List UInt8)} {WT' WL' : List ((Int × Int) × OpA)} {w w' : World}
theorem AP.more (h : AP S0 pb hb mh mw B rb me rep per KN WT KL WL mk lt wt lc wc w) (hb2 : Below w.heap.size w w') : AP S0 pb hb mh mw B rb me rep per KN WT KL WL mk lt wt lc wc w' := by
  obtain ⟨kl, wl, hr⟩ := h.r
  exact ⟨Blk.below h.p hb2 (Blk.lt h.p), h.t.more hb2, ⟨kl, wl, hr.more hb2⟩, h.lo, Nat.le_trans h.low hb2.size⟩
theorem AP.setH (h : AP S0 pb hb mh mw B rb me rep per KN WT KL WL mk lt wt lc wc w) (hT : Tb hb mh mw me rep per KN' WT w') (hc : Chg (fun k => k = mh) w w') : AP S0 pb hb mh mw B rb me rep per KN' WT KL WL mk lt wt lc wc w' ∧ BK S0 w w' := by
  obtain ⟨kl, wl, hr⟩ := h.r
  refine ⟨⟨hc.blk h.p (h.t.hm.ne_b h.p), hT, ⟨kl, wl, hr.keep hc (fun b e hb => ?_)⟩, h.lo, Nat.le_trans h.low hc.size⟩, ⟨hc.below h.low (fun k e => by rw [e]; exact h.lo.2.1), fun b D hB => hc.blk hB (h.t.hm.ne_b hB)⟩⟩
  rcases e with e | e | e
  · exact h.t.hm.ne_b hr.blk (e ▸ hb)
  · obtain ⟨cu, hcu⟩ := ownsRow_type hr.kr e
    exact h.t.hm.ne_b (show Blk w b cu 9 from hcu) hb
  · obtain ⟨cu, hcu⟩ := ownsRow_type hr.wr e
    exact h.t.hm.ne_b (show Blk w b cu 108 from hcu) hb
theorem AP.setW (h : AP S0 pb hb mh mw B rb me rep per KN WT KL WL mk lt wt lc wc w) (hT : Tb hb mh mw me rep per KN WT' w') (hc : Chg (fun k => k = mw) w w') : AP S0 pb hb mh mw B rb me rep per KN WT' KL WL mk lt wt lc wc w' ∧ BK S0 w w' := by
  obtain ⟨kl, wl, hr⟩ := h.r
  refine ⟨⟨hc.blk h.p (h.t.wm.ne_b h.p), hT, ⟨kl, wl, hr.keep hc (fun b e hb => ?_)⟩, h.lo, Nat.le_trans h.low hc.size⟩, ⟨hc.below h.low (fun k e => by rw [e]; exact h.lo.2.2.1), fun b D hB => hc.blk hB (h.t.wm.ne_b hB)⟩⟩
  rcases e with e | e | e
  · exact h.t.wm.ne_b hr.blk (e ▸ hb)
  · obtain ⟨cu, hcu⟩ := ownsRow_type hr.kr e
    exact h.t.wm.ne_b (show Blk w b cu 9 from hcu) hb
  · obtain ⟨cu, hcu⟩ := ownsRow_type hr.wr e
    exact h.t.wm.ne_b (show Blk w b cu 108 from hcu) hb
theorem RA.blk {kl wl : Value} (hr : RT B rb kl wl me rep per KL WL w) {b : Nat} (e : RA rb kl wl b) : ∃ D U, Blk w b D U ∧ (U = 97 ∨ U = 9 ∨ U = 108) := by
  rcases e with e | e | e
  · exact ⟨_, 97, e ▸ hr.blk, Or.inl rfl⟩
  · obtain ⟨cu, hcu⟩ := ownsRow_type hr.kr e
    exact ⟨cu, 9, hcu, Or.inr (Or.inl rfl)⟩
  · obtain ⟨cu, hcu⟩ := ownsRow_type hr.wr e
    exact ⟨cu, 108, hcu, Or.inr (Or.inr rfl)⟩
theorem RA.nb {kl wl : Value} (hr : RT B rb kl wl me rep per KL WL w) {b : Nat} {D : Array Value} {U : TypeId} (hB : Blk w b D U) (h1 : U ≠ 97) (h2 : U ≠ 9) (h3 : U ≠ 108) : ¬ RA rb kl wl b := fun e => by
  obtain ⟨D', U', hB', hU⟩ := RA.blk hr e
  have : U' = U := by
    by_cases q : U' = U
    · exact q
    · exact absurd rfl (Blk.ne_t hB' hB q)
  subst this
  rcases hU with e | e | e
  · exact h1 e
  · exact h2 e
  · exact h3 e
theorem AP.setR (h : AP S0 pb hb mh mw B rb me rep per KN WT KL WL mk lt wt lc wc w) {kl wl : Value} (hr : RT B rb kl wl me rep per KL WL w) (hp : RPost B rb kl wl me rep per KL' WL' w w') : AP S0 pb hb mh mw B rb me rep per KN WT KL' WL' mk lt wt lc wc w' ∧ BK S0 w w' := by
  obtain ⟨hc, kl', wl', hR, _⟩ := hp
  have nm : ∀ (b : Nat), (∀ (D : Array Value) (U : TypeId), ¬ Blk w b D U) → ¬ RA rb kl wl b := fun b hn e => by
    obtain ⟨D, U, hB, _⟩ := RA.blk hr e
    exact hn D U hB
  refine ⟨⟨hc.blk h.p (RA.nb hr h.p (by decide) (by decide) (by decide)), h.t.keep hc (RA.nb hr h.t.blk (by decide) (by decide) (by decide)) (nm _ (fun D U hB => h.t.hm.ne_b hB rfl)) (nm _ (fun D U hB => h.t.wm.ne_b hB rfl)), ⟨kl', wl', hR⟩, h.lo, Nat.le_trans h.low hc.size⟩, ⟨hc.below h.low (fun k e => Nat.le_trans h.lo.2.2.2 ?_), fun b D hB => hc.blk hB (RA.nb hr hB (by decide) (by decide) (by decide))⟩⟩
  rcases e with e | e | e
  · rw [e]; exact hr.lo
  · exact (ownsRow_lt hr.kr e).1
  · exact (ownsRow_lt hr.wr e).1
end
def KNof (rep : Int) (KL : List (List UInt8)) : List (List UInt8 × Int) := KL.map fun n => (n, homeN n rep)
theorem knows_of (rep : Int) (KL : List (List UInt8)) (n : List UInt8) : knows n (KNof rep KL) = decide (n ∈ KL) := by
  unfold knows look KNof
  by_cases h : n ∈ KL
  · rw [decide_eq_true h]
    cases hf : (KL.map fun n => (n, homeN n rep)).find? (fun p => decide (n = p.1)) with
    | some x => rfl
    | none =>
      have := List.find?_eq_none.1 hf (n, homeN n rep) (List.mem_map.2 ⟨n, h, rfl⟩)
      simp at this
  · rw [decide_eq_false h]
    have hf : (KL.map fun n => (n, homeN n rep)).find? (fun p => decide (n = p.1)) = none := by
      rw [List.find?_eq_none]
      intro x hx
      obtain ⟨m, hm, rfl⟩ := List.mem_map.1 hx
      simp only [decide_eq_true_eq]
      exact fun e => h (e ▸ hm)
    rw [hf]
    rfl
theorem cnt_of (rep h : Int) (KL : List (List UInt8)) : cntH h (KNof rep KL) = cntK rep h KL := by
  unfold cntH cntK KNof
  rw [List.countP_map]
  rfl
theorem make_same (me rep per : Int) (KL : List (List UInt8)) (n : List UInt8) : makeCode me rep per (KNof rep KL) n = rmc me rep per KL n ∧ makeNext me rep per (KNof rep KL) n = KNof rep (rmn me rep per KL n) := by
  have h1 : makeCode me rep per (KNof rep KL) n = rmc me rep per KL n := by
    unfold makeCode rmc
    rw [knows_of, cnt_of]
    simp
  refine ⟨h1, ?_⟩
  unfold makeNext rmn
  rw [h1]
  split
  · rename_i hc
    have hh : homeN n rep = me := by
      unfold rmc at hc
      split at hc
      · cases hc
      · split at hc
        · cases hc
        · rename_i h; simpa using h
    simp [KNof, hh]
  · rfl
theorem learn_same (me rep per : Int) (KL : List (List UInt8)) (n : List UInt8) : learnB me rep per (KNof rep KL) n = rlb me rep per KL n ∧ learnNext me rep per (KNof rep KL) n = KNof rep (rln me rep per KL n) := by
  have h1 : learnB me rep per (KNof rep KL) n = rlb me rep per KL n := by
    unfold learnB rlb
    rw [knows_of, cnt_of]
    cases nameB n <;> cases decide (n ∈ KL) <;> cases decide (homeN n rep = me) <;> rfl
  refine ⟨h1, ?_⟩
  unfold learnNext rln
  rw [h1]
  split
  · simp [KNof]
  · rfl
set_option maxRecDepth 100000 in
set_option maxHeartbeats 1600000 in
theorem callM {S0 pb hb mh mw B rb : Nat} {me rep per mk : Int} {KN : List (List UInt8 × Int)} {KL : List (List UInt8)} {WT WL : List ((Int × Int) × OpA)} {lt wt lc wc : Value} (n : List UInt8) (c : Int × Int) (o : OpA) (w : World) (h : AP S0 pb hb mh mw B rb me rep per (KNof rep KL) WT KL WL mk lt wt lc wc w) (hL : KL.length ≤ 100000) (hnl : ∀ x ∈ KL, x.length ≤ 140737488355328) (hl : n.length ≤ 140737488355328) (hrep : -9223372036854775808 ≤ rep ∧ rep ≤ 9223372036854775807) :
    Calls Try.prog 43 #[.pointer (some ⟨pb, 0, none⟩), .agg #[.int .i64 1, .string ⟨n.toArray⟩, .int .i64 c.1, .int .i64 c.2, .int .i64 o.k, .string ⟨o.n.toArray⟩, .int .i64 o.a, .int .i64 o.b]] w fun e w' => e = .returned (.bool true) ∧ AP S0 pb hb mh mw B rb me rep per (KNof rep (rmn me rep per KL n)) WT (rmn me rep per KL n) WL mk lt wt lc wc w' ∧ BK S0 w w' := by
  have hKL : (KNof rep KL).length ≤ 100000 := by unfold KNof; simpa using hL
  obtain ⟨hs1, hs2⟩ := make_same me rep per KL n
  have HM1 : Hid (∀ w', Tb hb mh mw me rep per (KNof rep KL) WT w' → Calls Try.prog 24 #[.pointer (some ⟨hb, 0, none⟩), .string ⟨n.toArray⟩] w' fun q w'' => q = .returned (Value.int .i64 (rmc me rep per KL n)) ∧ Tb hb mh mw me rep per (KNof rep (rmn me rep per KL n)) WT w'' ∧ Chg (fun k => k = mh) w' w'') := fun w' hT => by
    have := make_any n w' hT hKL hl hrep
    rw [hs1, hs2] at this
    exact this
  have HM2 : Hid (∀ {kl wl : Value} w', RT B rb kl wl me rep per KL WL w' → Calls Try.prog 54 #[.pointer (some ⟨rb, 0, none⟩), .string ⟨n.toArray⟩] w' fun q w'' => q = .returned (Value.int .i64 (rmc me rep per KL n)) ∧ RPost B rb kl wl me rep per (rmn me rep per KL n) WL w' w'') := fun w' hR => rmake_any n w' hR hL hnl hl hrep
  obtain ⟨X, hX⟩ : ∃ X, X = w.alloc (.cells #[.int .i64 1, .string ⟨n.toArray⟩, .int .i64 c.1, .int .i64 c.2, .int .i64 o.k, .string ⟨o.n.toArray⟩, .int .i64 o.a, .int .i64 o.b] 41) := ⟨_, rfl⟩
  have hbX : Below w.heap.size w X := by rw [hX]; exact (Below.refl _ _).alloc (Nat.le_refl _) _
  obtain ⟨bx, hbx⟩ : ∃ bx, bx = w.heap.size := ⟨_, rfl⟩
  have HBXX : Hid (Blk X bx #[.int .i64 1, .string ⟨n.toArray⟩, .int .i64 c.1, .int .i64 c.2, .int .i64 o.k, .string ⟨o.n.toArray⟩, .int .i64 o.a, .int .i64 o.b] 41) := show Blk X bx #[.int .i64 1, .string ⟨n.toArray⟩, .int .i64 c.1, .int .i64 c.2, .int .i64 o.k, .string ⟨o.n.toArray⟩, .int .i64 o.a, .int .i64 o.b] 41 from by rw [hX, hbx]; exact heap_alloc_new w _
  have HAPX : Hid (AP S0 pb hb mh mw B rb me rep per (KNof rep KL) WT KL WL mk lt wt lc wc X) := h.more hbX
  have HS0 : Hid (BK S0 w X) := BK.of hbX h.low
  have b0 : X.cell? ⟨bx, 0, none⟩ = some (.int .i64 1) := HBXX.out.cell 0
  generalize rmn me rep per KL n = KL2 at *
  generalize (rmc me rep per KL n) = cd at *
  clear h hL hnl hl hrep hKL hs1 hs2 hbX
  go_enter Try.func43, Try.ntmps43
  go_upto_region 3 with fail
  rw [← hX, ← hbx]
  clear hX hbx
  go_wp2_with fail
  rename_i K hK
  try rw [show ∀ a : Act, a.put none undef = a from fun _ => rfl]
  refine wp_region_mix (fun wz => wz.cell? ⟨pb, 0, none⟩ = some (.pointer (some ⟨hb, 0, none⟩)) ∧ wz.cell? ⟨bx, 1, none⟩ = some (.string ⟨n.toArray⟩)) (fun i => i == 6 || i == 99) 99 (by kernel_rfl) rfl (by kernel_rfl) (by kernel_rfl) (by kernel_rfl) ?_
  refine withFrP (N := 129) rfl ?_
  intro f0 F0 hff
  have e0 : f0 0 = Value.pointer (some ⟨pb, 0, none⟩) := hff 0
  have e3 : f0 3 = Value.pointer (some ⟨bx, 0, none⟩) := hff 3
  clear hff
  have HCC : (fun wz => wz.cell? ⟨pb, 0, none⟩ = some (.pointer (some ⟨hb, 0, none⟩)) ∧ wz.cell? ⟨bx, 1, none⟩ = some (.string ⟨n.toArray⟩)) (({ X with drawn := X.drawn + 1 } : World)) := ⟨Blk.cell (AP.p HAPX.out) 0, Blk.cell HBXX.out 1⟩
  refine lyp F0 rfl HCC rfl (by omega) (wanted_none rfl) (v := Value.pointer (some ⟨pb, 0, none⟩)) (fun wr hwr => by simp only [execOp, (F0.eval 0 (by omega)).trans (show _ = Value.pointer (some ⟨pb, 0, none⟩) from by simp [upd, e0, e3])]; first | rfl | simp [go_sem]) fun F1 => ?_
  refine lyp F1 rfl HCC rfl (by omega) (wanted_none rfl) (v := Value.pointer (some ⟨pb, 0, none⟩)) (fun wr hwr => by simp only [execOp, (F1.eval 16 (by omega)).trans (show _ = Value.pointer (some ⟨pb, 0, none⟩) from by simp [upd, e0, e3])]; simp [go_sem]) fun F2 => ?_
  refine lyp F2 rfl HCC rfl (by omega) (wanted_none rfl) (v := Value.pointer (some ⟨pb, 0, none⟩)) (fun wr hwr => by simp only [execOp, (F2.eval 17 (by omega)).trans (show _ = Value.pointer (some ⟨pb, 0, none⟩) from by simp [upd, e0, e3])]; simp [go_sem]) fun F3 => ?_
  refine lyp F3 rfl HCC rfl (by omega) (wanted_none rfl) (v := Value.pointer (some ⟨hb, 0, none⟩)) (fun wr hwr => by simp only [execOp, (F3.eval 18 (by omega)).trans (show _ = Value.pointer (some ⟨pb, 0, none⟩) from by simp [upd, e0, e3])]; simp [go_sem, hwr.1]) fun F4 => ?_
  refine lyp F4 rfl HCC rfl (by omega) (wanted_none rfl) (v := Value.pointer (some ⟨bx, 1, none⟩)) (fun wr hwr => by simp only [execOp, (F4.eval 3 (by omega)).trans (show _ = Value.pointer (some ⟨bx, 0, none⟩) from by simp [upd, e0, e3])]; simp [go_sem]) fun F5 => ?_
  refine lyp F5 rfl HCC rfl (by omega) (wanted_none rfl) (v := Value.string ⟨n.toArray⟩) (fun wr hwr => by simp only [execOp, (F5.eval 20 (by omega)).trans (show _ = Value.pointer (some ⟨bx, 1, none⟩) from by simp [upd, e0, e3])]; simp [go_sem, hwr.2]) fun F6 => ?_
  refine lcp F6 rfl HCC rfl (by omega) (wanted_none rfl) (g := 24) (args := #[Value.pointer (some ⟨hb, 0, none⟩), Value.string ⟨n.toArray⟩]) (by simp only [execOp, resolve, invoke, List.map_toArray, List.map_cons, List.map_nil, (F6.eval 19 (by omega)).trans (show _ = Value.pointer (some ⟨hb, 0, none⟩) from by simp [upd, e0, e3]), (F6.eval 21 (by omega)).trans (show _ = Value.string ⟨n.toArray⟩ from by simp [upd, e0, e3])]; simp [go_sem, Act.eval]) (HM1.out (({ X with drawn := X.drawn + 1 } : World)) (AP.t HAPX.out |>.more (Below.drew (Below.refl _ _)))) ?_
  rintro e w2 ⟨rfl, hT2, hc2⟩
  refine ⟨_, rfl, fun F7 => ?_⟩
  have hA2 := (HAPX.out.more (Below.drew (Below.refl X.heap.size X))).setH hT2 hc2
  have hx2 : Blk w2 bx _ 41 := hc2.blk (show Blk (({ X with drawn := X.drawn + 1 } : World)) bx _ 41 from HBXX.out) (HAPX.out.t.hm.ne_b HBXX.out)
  have HC2 : (fun wz => wz.cell? ⟨pb, 0, none⟩ = some (.pointer (some ⟨hb, 0, none⟩)) ∧ wz.cell? ⟨bx, 1, none⟩ = some (.string ⟨n.toArray⟩)) w2 := ⟨Blk.cell hA2.1.p 0, hx2.cell 1⟩
  refine lyp F7 rfl HC2 rfl (by omega) (wanted_none rfl) (v := Value.int .i64 cd) (fun wr hwr => by simp only [execOp, (F7.eval 22 (by omega)).trans (show _ = Value.int .i64 cd from by simp [upd, e0, e3])]; first | rfl | simp [go_sem]) fun F8 => ?_
  refine ⟨fun _ => HC2, ?_⟩
  refine hK _ _ ?_
  clear F0 F1 F2 F3 F4 F5 F6 F7 F8 e0 e3 
  simp only [Act.put, List.setIfInBounds_toArray, List.set_cons_succ, List.set_cons_zero]

  have HAPw2 : Hid (AP S0 pb hb mh mw B rb me rep per (KNof rep KL2) WT KL WL mk lt wt lc wc w2) := hA2.1
  have HBXw2 : Hid (Blk w2 bx #[.int .i64 1, .string ⟨n.toArray⟩, .int .i64 c.1, .int .i64 c.2, .int .i64 o.k, .string ⟨o.n.toArray⟩, .int .i64 o.a, .int .i64 o.b] 41) := hx2
  have HS2 : Hid (BK S0 w w2) := (HS0.out.trans (BK.dr S0 X)).trans hA2.2
  clear hA2 hx2 HC2 hT2 hc2 b0
  obtain ⟨kl, wl, hr3⟩ := HAPw2.out.r
  go_wp2_with fail
  rename_i K hK
  try rw [show ∀ a : Act, a.put none undef = a from fun _ => rfl]
  refine wp_region_mix (fun wz => wz.cell? ⟨pb, 1, none⟩ = some (.pointer (some ⟨rb, 0, none⟩)) ∧ wz.cell? ⟨bx, 1, none⟩ = some (.string ⟨n.toArray⟩)) (fun i => i == 1 || i == 8 || i == 99) 99 (by kernel_rfl) rfl (by kernel_rfl) (by kernel_rfl) (by kernel_rfl) ?_
  refine withFrP (N := 129) rfl ?_
  intro f0 F0 hff
  have e0 : f0 0 = Value.pointer (some ⟨pb, 0, none⟩) := hff 0
  have e3 : f0 3 = Value.pointer (some ⟨bx, 0, none⟩) := hff 3
  have e5 : f0 5 = Value.int .i64 cd := hff 5
  clear hff
  have HCC : (fun wz => wz.cell? ⟨pb, 1, none⟩ = some (.pointer (some ⟨rb, 0, none⟩)) ∧ wz.cell? ⟨bx, 1, none⟩ = some (.string ⟨n.toArray⟩)) (({ w2 with drawn := w2.drawn + 1 } : World)) := ⟨Blk.cell (AP.p HAPw2.out) 1, Blk.cell HBXw2.out 1⟩
  refine lyp F0 rfl HCC rfl (by omega) (wanted_none rfl) (v := Value.int .i64 cd) (fun wr hwr => by simp only [execOp, (F0.eval 5 (by omega)).trans (show _ = Value.int .i64 cd from by simp [upd, e0, e3, e5])]; first | rfl | simp [go_sem]) fun Fy1 => ?_
  refine lcp Fy1 rfl HCC rfl (by omega) (wanted_none rfl) (g := 17) (args := #[Value.int .i64 cd]) (by simp only [execOp, resolve, invoke, List.map_toArray, List.map_cons, List.map_nil, (Fy1.eval 23 (by omega)).trans (show _ = Value.int .i64 cd from by simp [upd, e0, e3, e5])]; simp [go_sem, Act.eval]) (num_any _ (({ w2 with drawn := w2.drawn + 1 } : World))) ?_
  rintro e w3 ⟨rfl, hw3⟩
  subst hw3
  refine ⟨_, rfl, fun Fy2 => ?_⟩
  refine lyp Fy2 rfl HCC rfl (by omega) (wanted_none rfl) (v := Value.pointer (some ⟨pb, 0, none⟩)) (fun wr hwr => by simp only [execOp, (Fy2.eval 0 (by omega)).trans (show _ = Value.pointer (some ⟨pb, 0, none⟩) from by simp [upd, e0, e3, e5])]; first | rfl | simp [go_sem]) fun Fy3 => ?_
  refine lyp Fy3 rfl HCC rfl (by omega) (wanted_none rfl) (v := Value.pointer (some ⟨pb, 0, none⟩)) (fun wr hwr => by simp only [execOp, (Fy3.eval 25 (by omega)).trans (show _ = Value.pointer (some ⟨pb, 0, none⟩) from by simp [upd, e0, e3, e5])]; simp [go_sem]) fun Fy4 => ?_
  refine lyp Fy4 rfl HCC rfl (by omega) (wanted_none rfl) (v := Value.pointer (some ⟨pb, 1, none⟩)) (fun wr hwr => by simp only [execOp, (Fy4.eval 26 (by omega)).trans (show _ = Value.pointer (some ⟨pb, 0, none⟩) from by simp [upd, e0, e3, e5])]; simp [go_sem]) fun Fy5 => ?_
  refine lyp Fy5 rfl HCC rfl (by omega) (wanted_none rfl) (v := Value.pointer (some ⟨rb, 0, none⟩)) (fun wr hwr => by simp only [execOp, (Fy5.eval 27 (by omega)).trans (show _ = Value.pointer (some ⟨pb, 1, none⟩) from by simp [upd, e0, e3, e5])]; simp [go_sem, hwr.1]) fun Fy6 => ?_
  refine lyp Fy6 rfl HCC rfl (by omega) (wanted_none rfl) (v := Value.pointer (some ⟨bx, 1, none⟩)) (fun wr hwr => by simp only [execOp, (Fy6.eval 3 (by omega)).trans (show _ = Value.pointer (some ⟨bx, 0, none⟩) from by simp [upd, e0, e3, e5])]; simp [go_sem]) fun Fy7 => ?_
  refine lyp Fy7 rfl HCC rfl (by omega) (wanted_none rfl) (v := Value.string ⟨n.toArray⟩) (fun wr hwr => by simp only [execOp, (Fy7.eval 29 (by omega)).trans (show _ = Value.pointer (some ⟨bx, 1, none⟩) from by simp [upd, e0, e3, e5])]; simp [go_sem, hwr.2]) fun Fy8 => ?_
  refine lcp Fy8 rfl HCC rfl (by omega) (wanted_none rfl) (g := 54) (args := #[Value.pointer (some ⟨rb, 0, none⟩), Value.string ⟨n.toArray⟩]) (by simp only [execOp, resolve, invoke, List.map_toArray, List.map_cons, List.map_nil, (Fy8.eval 28 (by omega)).trans (show _ = Value.pointer (some ⟨rb, 0, none⟩) from by simp [upd, e0, e3, e5]), (Fy8.eval 30 (by omega)).trans (show _ = Value.string ⟨n.toArray⟩ from by simp [upd, e0, e3, e5])]; simp [go_sem, Act.eval]) (HM2.out (({ w2 with drawn := w2.drawn + 1 } : World)) (hr3.more (Below.drew (Below.refl _ _)))) ?_
  rintro e w4 ⟨rfl, hp4⟩
  refine ⟨_, rfl, fun Fy9 => ?_⟩
  have hA4 := (HAPw2.out.more (Below.drew (Below.refl w2.heap.size w2))).setR (hr3.more (Below.drew (Below.refl _ _))) hp4
  have hx4 : Blk w4 bx _ 41 := hp4.1.blk (show Blk (({ w2 with drawn := w2.drawn + 1 } : World)) bx _ 41 from HBXw2.out) (RA.nb (hr3.more (Below.drew (Below.refl _ _))) (show Blk (({ w2 with drawn := w2.drawn + 1 } : World)) bx _ 41 from HBXw2.out) (by decide) (by decide) (by decide))
  have HC4 : (fun wz => wz.cell? ⟨pb, 1, none⟩ = some (.pointer (some ⟨rb, 0, none⟩)) ∧ wz.cell? ⟨bx, 1, none⟩ = some (.string ⟨n.toArray⟩)) w4 := ⟨Blk.cell hA4.1.p 1, hx4.cell 1⟩
  refine lyp Fy9 rfl HC4 rfl (by omega) (wanted_none rfl) (v := Value.bool true) (fun wr hwr => by simp only [execOp, (Fy9.eval 24 (by omega)).trans (show _ = Value.int .i64 cd from by simp [upd, e0, e3, e5]), (Fy9.eval 31 (by omega)).trans (show _ = Value.int .i64 cd from by simp [upd, e0, e3, e5])]; simp [go_sem, Act.eval]) fun Fy10 => ?_
  refine lyp Fy10 rfl HC4 rfl (by omega) (wanted_none rfl) (v := Value.bool true) (fun wr hwr => by simp only [execOp, (Fy10.eval 32 (by omega)).trans (show _ = Value.bool true from by simp [upd, e0, e3, e5])]; first | rfl | simp [go_sem]) fun Fy11 => ?_
  refine ⟨fun _ => HC4, ?_⟩
  refine hK _ _ ?_
  clear F0 Fy1 Fy2 Fy3 Fy4 Fy5 Fy6 Fy7 Fy8 Fy9 Fy10 Fy11 e0 e3 e5 
  simp only [Act.put, List.setIfInBounds_toArray, List.set_cons_succ, List.set_cons_zero]

  have HF : Hid _ := hA4.1
  have HFB : Hid (BK S0 w w4) := (HS2.out.trans (BK.dr S0 w2)).trans hA4.2
  clear hA4 hx4 HC4 hp4
  go_wp2_with fail
  go_ret
  exact ⟨rfl, HF.out, HFB.out⟩
set_option maxRecDepth 100000 in
set_option maxHeartbeats 1600000 in
theorem callL {S0 pb hb mh mw B rb : Nat} {me rep per mk : Int} {KN : List (List UInt8 × Int)} {KL : List (List UInt8)} {WT WL : List ((Int × Int) × OpA)} {lt wt lc wc : Value} (n : List UInt8) (c : Int × Int) (o : OpA) (w : World) (h : AP S0 pb hb mh mw B rb me rep per (KNof rep KL) WT KL WL mk lt wt lc wc w) (hL : KL.length ≤ 100000) (hnl : ∀ x ∈ KL, x.length ≤ 140737488355328) (hl : n.length ≤ 140737488355328) (hrep : -9223372036854775808 ≤ rep ∧ rep ≤ 9223372036854775807) :
    Calls Try.prog 43 #[.pointer (some ⟨pb, 0, none⟩), .agg #[.int .i64 2, .string ⟨n.toArray⟩, .int .i64 c.1, .int .i64 c.2, .int .i64 o.k, .string ⟨o.n.toArray⟩, .int .i64 o.a, .int .i64 o.b]] w fun e w' => e = .returned (.bool true) ∧ AP S0 pb hb mh mw B rb me rep per (KNof rep (rln me rep per KL n)) WT (rln me rep per KL n) WL mk lt wt lc wc w' ∧ BK S0 w w' := by
  have hKL : (KNof rep KL).length ≤ 100000 := by unfold KNof; simpa using hL
  obtain ⟨hs1, hs2⟩ := learn_same me rep per KL n
  have HM1 : Hid (∀ w', Tb hb mh mw me rep per (KNof rep KL) WT w' → Calls Try.prog 22 #[.pointer (some ⟨hb, 0, none⟩), .string ⟨n.toArray⟩] w' fun q w'' => q = .returned (Value.bool (rlb me rep per KL n)) ∧ Tb hb mh mw me rep per (KNof rep (rln me rep per KL n)) WT w'' ∧ Chg (fun k => k = mh) w' w'') := fun w' hT => by
    have := learn_any n w' hT hKL hl hrep
    rw [hs1, hs2] at this
    exact this
  have HM2 : Hid (∀ {kl wl : Value} w', RT B rb kl wl me rep per KL WL w' → Calls Try.prog 55 #[.pointer (some ⟨rb, 0, none⟩), .string ⟨n.toArray⟩] w' fun q w'' => q = .returned (Value.bool (rlb me rep per KL n)) ∧ RPost B rb kl wl me rep per (rln me rep per KL n) WL w' w'') := fun w' hR => rlearn_any n w' hR hL hnl hl hrep
  obtain ⟨X, hX⟩ : ∃ X, X = w.alloc (.cells #[.int .i64 2, .string ⟨n.toArray⟩, .int .i64 c.1, .int .i64 c.2, .int .i64 o.k, .string ⟨o.n.toArray⟩, .int .i64 o.a, .int .i64 o.b] 41) := ⟨_, rfl⟩
  have hbX : Below w.heap.size w X := by rw [hX]; exact (Below.refl _ _).alloc (Nat.le_refl _) _
  obtain ⟨bx, hbx⟩ : ∃ bx, bx = w.heap.size := ⟨_, rfl⟩
  have HBXX : Hid (Blk X bx #[.int .i64 2, .string ⟨n.toArray⟩, .int .i64 c.1, .int .i64 c.2, .int .i64 o.k, .string ⟨o.n.toArray⟩, .int .i64 o.a, .int .i64 o.b] 41) := show Blk X bx #[.int .i64 2, .string ⟨n.toArray⟩, .int .i64 c.1, .int .i64 c.2, .int .i64 o.k, .string ⟨o.n.toArray⟩, .int .i64 o.a, .int .i64 o.b] 41 from by rw [hX, hbx]; exact heap_alloc_new w _
  have HAPX : Hid (AP S0 pb hb mh mw B rb me rep per (KNof rep KL) WT KL WL mk lt wt lc wc X) := h.more hbX
  have HS0 : Hid (BK S0 w X) := BK.of hbX h.low
  have b0 : X.cell? ⟨bx, 0, none⟩ = some (.int .i64 2) := HBXX.out.cell 0
  generalize rln me rep per KL n = KL2 at *
  generalize (rlb me rep per KL n) = cd at *
  clear h hL hnl hl hrep hKL hs1 hs2 hbX
  go_enter Try.func43, Try.ntmps43
  go_upto_region 6 with fail
  rw [← hX, ← hbx]
  clear hX hbx
  go_wp2_with fail
  rename_i K hK
  try rw [show ∀ a : Act, a.put none undef = a from fun _ => rfl]
  refine wp_region_mix (fun wz => wz.cell? ⟨pb, 0, none⟩ = some (.pointer (some ⟨hb, 0, none⟩)) ∧ wz.cell? ⟨bx, 1, none⟩ = some (.string ⟨n.toArray⟩)) (fun i => i == 6 || i == 99) 99 (by kernel_rfl) rfl (by kernel_rfl) (by kernel_rfl) (by kernel_rfl) ?_
  refine withFrP (N := 129) rfl ?_
  intro f0 F0 hff
  have e0 : f0 0 = Value.pointer (some ⟨pb, 0, none⟩) := hff 0
  have e3 : f0 3 = Value.pointer (some ⟨bx, 0, none⟩) := hff 3
  clear hff
  have HCC : (fun wz => wz.cell? ⟨pb, 0, none⟩ = some (.pointer (some ⟨hb, 0, none⟩)) ∧ wz.cell? ⟨bx, 1, none⟩ = some (.string ⟨n.toArray⟩)) (({ X with drawn := X.drawn + 1 } : World)) := ⟨Blk.cell (AP.p HAPX.out) 0, Blk.cell HBXX.out 1⟩
  refine lyp F0 rfl HCC rfl (by omega) (wanted_none rfl) (v := Value.pointer (some ⟨pb, 0, none⟩)) (fun wr hwr => by simp only [execOp, (F0.eval 0 (by omega)).trans (show _ = Value.pointer (some ⟨pb, 0, none⟩) from by simp [upd, e0, e3])]; first | rfl | simp [go_sem]) fun F1 => ?_
  refine lyp F1 rfl HCC rfl (by omega) (wanted_none rfl) (v := Value.pointer (some ⟨pb, 0, none⟩)) (fun wr hwr => by simp only [execOp, (F1.eval 35 (by omega)).trans (show _ = Value.pointer (some ⟨pb, 0, none⟩) from by simp [upd, e0, e3])]; simp [go_sem]) fun F2 => ?_
  refine lyp F2 rfl HCC rfl (by omega) (wanted_none rfl) (v := Value.pointer (some ⟨pb, 0, none⟩)) (fun wr hwr => by simp only [execOp, (F2.eval 36 (by omega)).trans (show _ = Value.pointer (some ⟨pb, 0, none⟩) from by simp [upd, e0, e3])]; simp [go_sem]) fun F3 => ?_
  refine lyp F3 rfl HCC rfl (by omega) (wanted_none rfl) (v := Value.pointer (some ⟨hb, 0, none⟩)) (fun wr hwr => by simp only [execOp, (F3.eval 37 (by omega)).trans (show _ = Value.pointer (some ⟨pb, 0, none⟩) from by simp [upd, e0, e3])]; simp [go_sem, hwr.1]) fun F4 => ?_
  refine lyp F4 rfl HCC rfl (by omega) (wanted_none rfl) (v := Value.pointer (some ⟨bx, 1, none⟩)) (fun wr hwr => by simp only [execOp, (F4.eval 3 (by omega)).trans (show _ = Value.pointer (some ⟨bx, 0, none⟩) from by simp [upd, e0, e3])]; simp [go_sem]) fun F5 => ?_
  refine lyp F5 rfl HCC rfl (by omega) (wanted_none rfl) (v := Value.string ⟨n.toArray⟩) (fun wr hwr => by simp only [execOp, (F5.eval 39 (by omega)).trans (show _ = Value.pointer (some ⟨bx, 1, none⟩) from by simp [upd, e0, e3])]; simp [go_sem, hwr.2]) fun F6 => ?_
  refine lcp F6 rfl HCC rfl (by omega) (wanted_none rfl) (g := 22) (args := #[Value.pointer (some ⟨hb, 0, none⟩), Value.string ⟨n.toArray⟩]) (by simp only [execOp, resolve, invoke, List.map_toArray, List.map_cons, List.map_nil, (F6.eval 38 (by omega)).trans (show _ = Value.pointer (some ⟨hb, 0, none⟩) from by simp [upd, e0, e3]), (F6.eval 40 (by omega)).trans (show _ = Value.string ⟨n.toArray⟩ from by simp [upd, e0, e3])]; simp [go_sem, Act.eval]) (HM1.out (({ X with drawn := X.drawn + 1 } : World)) (AP.t HAPX.out |>.more (Below.drew (Below.refl _ _)))) ?_
  rintro e w2 ⟨rfl, hT2, hc2⟩
  refine ⟨_, rfl, fun F7 => ?_⟩
  have hA2 := (HAPX.out.more (Below.drew (Below.refl X.heap.size X))).setH hT2 hc2
  have hx2 : Blk w2 bx _ 41 := hc2.blk (show Blk (({ X with drawn := X.drawn + 1 } : World)) bx _ 41 from HBXX.out) (HAPX.out.t.hm.ne_b HBXX.out)
  have HC2 : (fun wz => wz.cell? ⟨pb, 0, none⟩ = some (.pointer (some ⟨hb, 0, none⟩)) ∧ wz.cell? ⟨bx, 1, none⟩ = some (.string ⟨n.toArray⟩)) w2 := ⟨Blk.cell hA2.1.p 0, hx2.cell 1⟩
  refine lyp F7 rfl HC2 rfl (by omega) (wanted_none rfl) (v := Value.bool cd) (fun wr hwr => by simp only [execOp, (F7.eval 41 (by omega)).trans (show _ = Value.bool cd from by simp [upd, e0, e3])]; first | rfl | simp [go_sem]) fun F8 => ?_
  refine ⟨fun _ => HC2, ?_⟩
  refine hK _ _ ?_
  clear F0 F1 F2 F3 F4 F5 F6 F7 F8 e0 e3 
  simp only [Act.put, List.setIfInBounds_toArray, List.set_cons_succ, List.set_cons_zero]

  have HAPw2 : Hid (AP S0 pb hb mh mw B rb me rep per (KNof rep KL2) WT KL WL mk lt wt lc wc w2) := hA2.1
  have HBXw2 : Hid (Blk w2 bx #[.int .i64 2, .string ⟨n.toArray⟩, .int .i64 c.1, .int .i64 c.2, .int .i64 o.k, .string ⟨o.n.toArray⟩, .int .i64 o.a, .int .i64 o.b] 41) := hx2
  have HS2 : Hid (BK S0 w w2) := (HS0.out.trans (BK.dr S0 X)).trans hA2.2
  clear hA2 hx2 HC2 hT2 hc2 b0
  obtain ⟨kl, wl, hr3⟩ := HAPw2.out.r
  go_wp2_with fail
  rename_i K hK
  try rw [show ∀ a : Act, a.put none undef = a from fun _ => rfl]
  refine wp_region_mix (fun wz => wz.cell? ⟨pb, 1, none⟩ = some (.pointer (some ⟨rb, 0, none⟩)) ∧ wz.cell? ⟨bx, 1, none⟩ = some (.string ⟨n.toArray⟩)) (fun i => i == 7 || i == 99) 99 (by kernel_rfl) rfl (by kernel_rfl) (by kernel_rfl) (by kernel_rfl) ?_
  refine withFrP (N := 129) rfl ?_
  intro f0 F0 hff
  have e0 : f0 0 = Value.pointer (some ⟨pb, 0, none⟩) := hff 0
  have e3 : f0 3 = Value.pointer (some ⟨bx, 0, none⟩) := hff 3
  have e6 : f0 6 = Value.bool cd := hff 6
  clear hff
  have HCC : (fun wz => wz.cell? ⟨pb, 1, none⟩ = some (.pointer (some ⟨rb, 0, none⟩)) ∧ wz.cell? ⟨bx, 1, none⟩ = some (.string ⟨n.toArray⟩)) (({ w2 with drawn := w2.drawn + 1 } : World)) := ⟨Blk.cell (AP.p HAPw2.out) 1, Blk.cell HBXw2.out 1⟩
  refine lyp F0 rfl HCC rfl (by omega) (wanted_none rfl) (v := Value.bool cd) (fun wr hwr => by simp only [execOp, (F0.eval 6 (by omega)).trans (show _ = Value.bool cd from by simp [upd, e0, e3, e6])]; first | rfl | simp [go_sem]) fun Fy1 => ?_
  refine lyp Fy1 rfl HCC rfl (by omega) (wanted_none rfl) (v := Value.pointer (some ⟨pb, 0, none⟩)) (fun wr hwr => by simp only [execOp, (Fy1.eval 0 (by omega)).trans (show _ = Value.pointer (some ⟨pb, 0, none⟩) from by simp [upd, e0, e3, e6])]; first | rfl | simp [go_sem]) fun Fy2 => ?_
  refine lyp Fy2 rfl HCC rfl (by omega) (wanted_none rfl) (v := Value.pointer (some ⟨pb, 0, none⟩)) (fun wr hwr => by simp only [execOp, (Fy2.eval 43 (by omega)).trans (show _ = Value.pointer (some ⟨pb, 0, none⟩) from by simp [upd, e0, e3, e6])]; simp [go_sem]) fun Fy3 => ?_
  refine lyp Fy3 rfl HCC rfl (by omega) (wanted_none rfl) (v := Value.pointer (some ⟨pb, 1, none⟩)) (fun wr hwr => by simp only [execOp, (Fy3.eval 44 (by omega)).trans (show _ = Value.pointer (some ⟨pb, 0, none⟩) from by simp [upd, e0, e3, e6])]; simp [go_sem]) fun Fy4 => ?_
  refine lyp Fy4 rfl HCC rfl (by omega) (wanted_none rfl) (v := Value.pointer (some ⟨rb, 0, none⟩)) (fun wr hwr => by simp only [execOp, (Fy4.eval 45 (by omega)).trans (show _ = Value.pointer (some ⟨pb, 1, none⟩) from by simp [upd, e0, e3, e6])]; simp [go_sem, hwr.1]) fun Fy5 => ?_
  refine lyp Fy5 rfl HCC rfl (by omega) (wanted_none rfl) (v := Value.pointer (some ⟨bx, 1, none⟩)) (fun wr hwr => by simp only [execOp, (Fy5.eval 3 (by omega)).trans (show _ = Value.pointer (some ⟨bx, 0, none⟩) from by simp [upd, e0, e3, e6])]; simp [go_sem]) fun Fy6 => ?_
  refine lyp Fy6 rfl HCC rfl (by omega) (wanted_none rfl) (v := Value.string ⟨n.toArray⟩) (fun wr hwr => by simp only [execOp, (Fy6.eval 47 (by omega)).trans (show _ = Value.pointer (some ⟨bx, 1, none⟩) from by simp [upd, e0, e3, e6])]; simp [go_sem, hwr.2]) fun Fy7 => ?_
  refine lcp Fy7 rfl HCC rfl (by omega) (wanted_none rfl) (g := 55) (args := #[Value.pointer (some ⟨rb, 0, none⟩), Value.string ⟨n.toArray⟩]) (by simp only [execOp, resolve, invoke, List.map_toArray, List.map_cons, List.map_nil, (Fy7.eval 46 (by omega)).trans (show _ = Value.pointer (some ⟨rb, 0, none⟩) from by simp [upd, e0, e3, e6]), (Fy7.eval 48 (by omega)).trans (show _ = Value.string ⟨n.toArray⟩ from by simp [upd, e0, e3, e6])]; simp [go_sem, Act.eval]) (HM2.out (({ w2 with drawn := w2.drawn + 1 } : World)) (hr3.more (Below.drew (Below.refl _ _)))) ?_
  rintro e w4 ⟨rfl, hp4⟩
  refine ⟨_, rfl, fun Fy8 => ?_⟩
  have hA4 := (HAPw2.out.more (Below.drew (Below.refl w2.heap.size w2))).setR (hr3.more (Below.drew (Below.refl _ _))) hp4
  have hx4 : Blk w4 bx _ 41 := hp4.1.blk (show Blk (({ w2 with drawn := w2.drawn + 1 } : World)) bx _ 41 from HBXw2.out) (RA.nb (hr3.more (Below.drew (Below.refl _ _))) (show Blk (({ w2 with drawn := w2.drawn + 1 } : World)) bx _ 41 from HBXw2.out) (by decide) (by decide) (by decide))
  have HC4 : (fun wz => wz.cell? ⟨pb, 1, none⟩ = some (.pointer (some ⟨rb, 0, none⟩)) ∧ wz.cell? ⟨bx, 1, none⟩ = some (.string ⟨n.toArray⟩)) w4 := ⟨Blk.cell hA4.1.p 1, hx4.cell 1⟩
  refine lyp Fy8 rfl HC4 rfl (by omega) (wanted_none rfl) (v := Value.bool true) (fun wr hwr => by simp only [execOp, (Fy8.eval 42 (by omega)).trans (show _ = Value.bool cd from by simp [upd, e0, e3, e6]), (Fy8.eval 49 (by omega)).trans (show _ = Value.bool cd from by simp [upd, e0, e3, e6])]; simp [go_sem, Act.eval]) fun Fy9 => ?_
  refine lyp Fy9 rfl HC4 rfl (by omega) (wanted_none rfl) (v := Value.bool true) (fun wr hwr => by simp only [execOp, (Fy9.eval 50 (by omega)).trans (show _ = Value.bool true from by simp [upd, e0, e3, e6])]; first | rfl | simp [go_sem]) fun Fy10 => ?_
  refine ⟨fun _ => HC4, ?_⟩
  refine hK _ _ ?_
  clear F0 Fy1 Fy2 Fy3 Fy4 Fy5 Fy6 Fy7 Fy8 Fy9 Fy10 e0 e3 e6 
  simp only [Act.put, List.setIfInBounds_toArray, List.set_cons_succ, List.set_cons_zero]

  have HF : Hid _ := hA4.1
  have HFB : Hid (BK S0 w w4) := (HS2.out.trans (BK.dr S0 w2)).trans hA4.2
  clear hA4 hx4 HC4 hp4
  go_wp2_with fail
  go_ret
  exact ⟨rfl, HF.out, HFB.out⟩
end Go.Proofs.Ytbjlaloofpdbfaa
