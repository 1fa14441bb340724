import Derived.Test.YtlajcaofpmjdlaaTrc
import Derived.Deep.Cut
namespace Go.Proofs.Ytlajcaofpmjdlaa
open Go.RowKit Go.PlainAid
set_option linter.unusedVariables false
set_option linter.unusedSimpArgs false
section
variable {L pb p s rb : Nat} {S : SV} {dp rp lent fv lv : Value} {n : Nat} {x : DV} {r : RV} {R pre post : List (Ent L)} {w : World}
theorem PH.swapR {X X' : Ent L} {w' : World} (h : PH L pb S dp rp lent n (pre ++ X :: post) w) (hc : Chg (fun k => X.bl k) w w') (hP : X'.P w') (hu : ∀ k, X'.bl k → X.bl k ∨ w.heap.size ≤ k) : PH L pb S dp rp lent n (pre ++ X' :: post) w' := by
  have e : ∀ Y : Ent L, boxE L pb (S.cs dp rp lent n) 66 :: (S.rows L ++ (S.data L ++ (pre ++ Y :: post))) = (boxE L pb (S.cs dp rp lent n) 66 :: (S.rows L ++ (S.data L ++ pre))) ++ Y :: post := fun Y => by simp
  unfold PH at h ⊢
  rw [e] at h ⊢
  exact h.at hc hP hu
theorem PH.belowR {X : Ent L} {w' : World} (h : PH L pb S dp rp lent n (pre ++ X :: post) w) (hc : Chg (fun k => X.bl k) w w') : Below L w w' := Held.below2 h h.low hc (fun k hk => ⟨X, by simp, hk⟩)
end
section
variable {L pb p s rb : Nat} {S : SV} {lent fv lv bv : Value} {n ln : Nat} {x : DV} {r : RV} {R : List (Ent L)} {zs bs : List UInt8}
/-- A pair, all of it. -/
def PA (L pb p s rb : Nat) (S : SV) (fv lv lent : Value) (n : Nat) (zs : List UInt8) (x : DV) (r : RV) (R : List (Ent L)) (w : World) : Prop := PH L pb S (.pointer (some ⟨p, 0, none⟩)) (.pointer (some ⟨rb, 0, none⟩)) lent n (dmE L p s x :: rdE L rb fv lv r :: datE L (lent, zs) :: R) w
theorem PA.dm {w : World} (h : PA L pb p s rb S fv lv lent n zs x r R w) : DM L p s x w := PH.getR (X := dmE L p s x) h (by simp)
theorem PA.rm {w : World} (h : PA L pb p s rb S fv lv lent n zs x r R w) : RM L rb fv lv r w := PH.getR (X := rdE L rb fv lv r) h (by simp)
theorem PA.setD {w w' : World} (h : PA L pb p s rb S fv lv lent n zs x r R w) {y : DV} {A : Nat → Prop} (hA : ∀ k, A k → down p s k) (hc : Chg A w w') (hd : DM L p s y w') : PA L pb p s rb S fv lv lent n zs y r R w' ∧ Below L w w' := by
  have hc' : Chg (fun k => (dmE L p s x).bl k) w w' := hc.mono (fun k _ e => hA k e)
  exact ⟨PH.swapR (pre := []) (X := dmE L p s x) (X' := dmE L p s y) h hc' hd (fun k hk => Or.inl hk), PH.belowR (pre := []) (X := dmE L p s x) h hc'⟩
theorem PA.setR {w w' : World} (h : PA L pb p s rb S fv lv lent n zs x r R w) {fv' lv' : Value} {y : RV} {A : Nat → Prop} (hA : ∀ k, A k → rown rb fv lv r k) (hc : Chg A w w') (hd : RM L rb fv' lv' y w') (hu : ∀ k, rown rb fv' lv' y k → rown rb fv lv r k ∨ w.heap.size ≤ k) : PA L pb p s rb S fv' lv' lent n zs x y R w' ∧ Below L w w' := by
  have hc' : Chg (fun k => (rdE L rb fv lv r).bl k) w w' := hc.mono (fun k _ e => hA k e)
  exact ⟨PH.swapR (pre := [dmE L p s x]) (X := rdE L rb fv lv r) (X' := rdE L rb fv' lv' y) h hc' hd hu, PH.belowR (pre := [dmE L p s x]) (X := rdE L rb fv lv r) h hc'⟩
/-- What acts answers. -/
def ActO (L pb p s rb : Nat) (S : SV) (n : Nat) (r : RV) (R : List (Ent L)) (w : World) (e : Ending) (w' : World) : Prop := e = .returned (.bool true) ∧ ∃ fv' lv' lent' zs' x' r', AgD x' r' ∧ r'.log.length ≤ r.log.length + 1 ∧ PA L pb p s rb S fv' lv' lent' n zs' x' r' R w' ∧ Below L w w'
set_option maxRecDepth 100000 in
set_option maxHeartbeats 3200000 in
theorem acts_off (owho oN oM : Int) (w : World) (h : PA L pb p s rb S fv lv lent n zs x r R w) (ha : AgD x r) (hM : oN ≤ 9223372036854775807) :
    Calls Try.prog 41 #[.pointer (some ⟨pb, 0, none⟩), .agg #[.int .i64 3, .int .i64 owho, .int .i64 oN, .int .i64 oM, bv]] w (ActO L pb p s rb S n r R w) := by
  obtain ⟨ob, hob⟩ : ∃ b, b = w.heap.size := ⟨_, rfl⟩
  obtain ⟨X, hX⟩ : ∃ X, X = w.alloc (.cells #[.int .i64 3, .int .i64 owho, .int .i64 oN, .int .i64 oM, bv] 58) := ⟨_, rfl⟩
  have hbX : Below w.heap.size w X := by rw [hX]; exact (Below.refl _ _).alloc (Nat.le_refl _) _
  have hBX : Blk X ob #[.int .i64 3, .int .i64 owho, .int .i64 oN, .int .i64 oM, bv] 58 := by rw [hX, hob]; exact heap_alloc_new w _
  have hLw : L ≤ w.heap.size := PH.low h
  have hpX : PA L pb p s rb S fv lv lent n zs x r R X := PH.more h hbX
  have HBL : Hid (Below L w X) := hbX.mono hLw
  have HOB : Hid (∀ k, down p s k ∨ rown rb fv lv r k → k ≠ ob) := fun k hk e => by
    have h1 : k < w.heap.size := by
      rcases hk with h2 | h2
      · exact ((PA.dm h).lt h2).2
      · exact ((PA.rm h).lt h2).2
    omega
  have k0 := (PH.c0 hpX).1
  have o0 : X.cell? ⟨ob, 0, none⟩ = some (.int .i64 3) := hBX.cell 0
  have HC1 : Hid _ := off_any X (PA.dm hpX)
  have HPX : Hid (PA L pb p s rb S fv lv lent n zs x r R X) := hpX
  have HAG : Hid (AgD x r) := ha
  clear h ha hM hLw hpX hbX hBX
  go_enter Try.func41, Try.ntmps41
  go_upto_region 1 with fail
  rw [← hX, ← hob]
  clear hX hob
  go_wp2_with fail
  refine Calls.mono HC1.out ?_
  rintro e w1 ⟨rfl, hd1, hc1⟩
  clear HC1 k0 o0
  obtain ⟨hp1, hb1⟩ := HPX.out.setD (fun k e => Or.inl e) hc1 hd1
  have k1 := (PH.c0 hp1).2
  have HC2 : Hid _ := roff_any w1 (PA.rm hp1)
  have HP1 : Hid (PA L pb p s rb S fv lv lent n zs (x.offed) r R w1 ∧ Below L w w1) := ⟨hp1, HBL.out.trans hb1⟩
  clear hd1 hc1 hp1 hb1 HPX
  go_wp2_with fail
  refine Calls.mono HC2.out ?_
  rintro e w2 ⟨rfl, hd2, hc2⟩
  clear HC2 k1
  obtain ⟨hp2, hb2⟩ := HP1.out.1.setR (fun k e => Or.inl e) hc2 hd2 (fun k hk => Or.inl hk)
  have HF : Hid (PA L pb p s rb S fv lv lent n zs (x.offed) ({ r with on := false, left := -1 }) R w2 ∧ Below L w w2) := ⟨hp2, HP1.out.2.trans hb2⟩
  clear hd2 hc2 hp2 hb2 HP1
  go_wp2_with fail
  go_ret
  exact ⟨rfl, fv, lv, lent, zs, _, _, HAG.out.offs, Nat.le_succ _, HF.out.1, HF.out.2⟩
set_option maxRecDepth 100000 in
set_option maxHeartbeats 3200000 in
theorem acts_on (owho oN oM : Int) (w : World) (h : PA L pb p s rb S fv lv lent n zs x r R w) (ha : AgD x r) (hM : oN ≤ 9223372036854775807) :
    Calls Try.prog 41 #[.pointer (some ⟨pb, 0, none⟩), .agg #[.int .i64 4, .int .i64 owho, .int .i64 oN, .int .i64 oM, bv]] w (ActO L pb p s rb S n r R w) := by
  obtain ⟨ob, hob⟩ : ∃ b, b = w.heap.size := ⟨_, rfl⟩
  obtain ⟨X, hX⟩ : ∃ X, X = w.alloc (.cells #[.int .i64 4, .int .i64 owho, .int .i64 oN, .int .i64 oM, bv] 58) := ⟨_, rfl⟩
  have hbX : Below w.heap.size w X := by rw [hX]; exact (Below.refl _ _).alloc (Nat.le_refl _) _
  have hBX : Blk X ob #[.int .i64 4, .int .i64 owho, .int .i64 oN, .int .i64 oM, bv] 58 := by rw [hX, hob]; exact heap_alloc_new w _
  have hLw : L ≤ w.heap.size := PH.low h
  have hpX : PA L pb p s rb S fv lv lent n zs x r R X := PH.more h hbX
  have HBL : Hid (Below L w X) := hbX.mono hLw
  have HOB : Hid (∀ k, down p s k ∨ rown rb fv lv r k → k ≠ ob) := fun k hk e => by
    have h1 : k < w.heap.size := by
      rcases hk with h2 | h2
      · exact ((PA.dm h).lt h2).2
      · exact ((PA.rm h).lt h2).2
    omega
  have k0 := (PH.c0 hpX).1
  have o0 : X.cell? ⟨ob, 0, none⟩ = some (.int .i64 4) := hBX.cell 0
  have HC1 : Hid _ := on_any X (PA.dm hpX)
  have HPX : Hid (PA L pb p s rb S fv lv lent n zs x r R X) := hpX
  have HAG : Hid (AgD x r) := ha
  clear h ha hM hLw hpX hbX hBX
  go_enter Try.func41, Try.ntmps41
  go_upto_region 1 with fail
  rw [← hX, ← hob]
  clear hX hob
  go_wp2_with fail
  refine Calls.mono HC1.out ?_
  rintro e w1 ⟨rfl, hd1, hc1⟩
  clear HC1 k0 o0
  obtain ⟨hp1, hb1⟩ := HPX.out.setD (fun k e => Or.inl e) hc1 hd1
  have k1 := (PH.c0 hp1).2
  have HC2 : Hid _ := rstart_any w1 (PA.rm hp1)
  have HP1 : Hid (PA L pb p s rb S fv lv lent n zs ({ x with off := false }) r R w1 ∧ Below L w w1) := ⟨hp1, HBL.out.trans hb1⟩
  clear hd1 hc1 hp1 hb1 HPX
  go_wp2_with fail
  refine Calls.mono HC2.out ?_
  rintro e w2 ⟨rfl, hd2, hc2⟩
  clear HC2 k1
  obtain ⟨hp2, hb2⟩ := HP1.out.1.setR (fun k e => Or.inl e) hc2 hd2 (fun k hk => Or.inl hk)
  have HF : Hid (PA L pb p s rb S fv lv lent n zs ({ x with off := false }) ({ r with on := true }) R w2 ∧ Below L w w2) := ⟨hp2, HP1.out.2.trans hb2⟩
  clear hd2 hc2 hp2 hb2 HP1
  go_wp2_with fail
  go_ret
  exact ⟨rfl, fv, lv, lent, zs, _, _, HAG.out.ons, Nat.le_succ _, HF.out.1, HF.out.2⟩
set_option maxRecDepth 100000 in
set_option maxHeartbeats 3200000 in
theorem acts_arm (owho oN oM : Int) (w : World) (h : PA L pb p s rb S fv lv lent n zs x r R w) (ha : AgD x r) (hM : oN ≤ 9223372036854775807) :
    Calls Try.prog 41 #[.pointer (some ⟨pb, 0, none⟩), .agg #[.int .i64 2, .int .i64 owho, .int .i64 oN, .int .i64 oM, bv]] w (ActO L pb p s rb S n r R w) := by
  obtain ⟨ob, hob⟩ : ∃ b, b = w.heap.size := ⟨_, rfl⟩
  obtain ⟨X, hX⟩ : ∃ X, X = w.alloc (.cells #[.int .i64 2, .int .i64 owho, .int .i64 oN, .int .i64 oM, bv] 58) := ⟨_, rfl⟩
  have hbX : Below w.heap.size w X := by rw [hX]; exact (Below.refl _ _).alloc (Nat.le_refl _) _
  have hBX : Blk X ob #[.int .i64 2, .int .i64 owho, .int .i64 oN, .int .i64 oM, bv] 58 := by rw [hX, hob]; exact heap_alloc_new w _
  have hLw : L ≤ w.heap.size := PH.low h
  have hpX : PA L pb p s rb S fv lv lent n zs x r R X := PH.more h hbX
  have HBL : Hid (Below L w X) := hbX.mono hLw
  have HOB : Hid (∀ k, down p s k ∨ rown rb fv lv r k → k ≠ ob) := fun k hk e => by
    have h1 : k < w.heap.size := by
      rcases hk with h2 | h2
      · exact ((PA.dm h).lt h2).2
      · exact ((PA.rm h).lt h2).2
    omega
  obtain ⟨y, ry, hag, hlg, H1, H2⟩ : ∃ y ry, AgD y ry ∧ ry.log.length ≤ r.log.length + 1 ∧ (∀ w', DM L p s x w' → Calls Try.prog 22 #[.pointer (some ⟨p, 0, none⟩), .int .i64 oN, .int .i64 oM] w' fun e w2 => e = .returned (.tuple #[]) ∧ DM L p s y w2 ∧ Chg (fun k => k = p) w' w2) ∧ (∀ w', RM L rb fv lv r w' → Calls Try.prog 47 #[.pointer (some ⟨rb, 0, none⟩), .int .i64 oN, .int .i64 oM] w' fun e w2 => e = .returned (.tuple #[]) ∧ RM L rb fv lv ry w2 ∧ Chg (fun k => k = rb) w' w2 ∧ ∀ k, rown rb fv lv ry k → rown rb fv lv r k) := by
    cases ho : x.off with
    | true =>
      have hro : r.on = false := by
        have h1 := ha.off
        rw [ho] at h1
        cases hr : r.on with
        | false => rfl
        | true => rw [hr] at h1; cases h1
      refine ⟨x, r, ha, Nat.le_succ _, fun w' hd => (arm_off oN oM w' hd ho).mono ?_, fun w' hd => (rarm_off oN oM w' hd hro).mono ?_⟩
      · rintro e w2 ⟨rfl, rfl⟩
        exact ⟨rfl, hd, Chg.refl _ _⟩
      · rintro e w2 ⟨rfl, rfl⟩
        exact ⟨rfl, hd, Chg.refl _ _, fun k hk => hk⟩
    | false =>
      have hro : r.on = true := by
        have h1 := ha.off
        rw [ho] at h1
        cases hr : r.on with
        | true => rfl
        | false => rw [hr] at h1; cases h1
      refine ⟨_, _, ha.arms oN oM hM, Nat.le_succ _, fun w' hd => arm_on oN oM w' hd ho hM, fun w' hd => (rarm_on oN oM w' hd hro).mono ?_⟩
      rintro e w2 ⟨rfl, h1, h2⟩
      exact ⟨rfl, h1, h2, fun k hk => hk⟩
  have o0 : X.cell? ⟨ob, 0, none⟩ = some (.int .i64 2) := hBX.cell 0
  have HPX : Hid (PA L pb p s rb S fv lv lent n zs x r R X) := hpX
  have HBX : Hid (Blk X ob #[.int .i64 2, .int .i64 owho, .int .i64 oN, .int .i64 oM, bv] 58) := hBX
  have HCX : Hid (X.cell? ⟨pb, 0, none⟩ = some (Value.pointer (some ⟨p, 0, none⟩)) ∧ X.cell? ⟨pb, 1, none⟩ = some (Value.pointer (some ⟨rb, 0, none⟩)) ∧ X.cell? ⟨ob, 2, none⟩ = some (Value.int .i64 oN) ∧ X.cell? ⟨ob, 3, none⟩ = some (Value.int .i64 oM)) := ⟨(PH.c0 hpX).1, (PH.c0 hpX).2, hBX.cell 2, hBX.cell 3⟩
  have HA1 : Hid _ := H1
  have HA2 : Hid _ := H2
  have HAG : Hid (AgD y ry ∧ ry.log.length ≤ r.log.length + 1) := ⟨hag, hlg⟩
  clear h ha hM hLw hpX hbX hBX H1 H2 hag hlg
  go_enter Try.func41, Try.ntmps41
  go_upto_region 1 with fail
  rw [← hX, ← hob]
  clear hX hob
  go_wp2_with fail
  rename_i K hK
  try rw [show ∀ a : Act, a.put none undef = a from fun _ => rfl]
  refine wp_region_mix (fun wz : World => wz.cell? ⟨pb, 0, none⟩ = some (Value.pointer (some ⟨p, 0, none⟩)) ∧ wz.cell? ⟨pb, 1, none⟩ = some (Value.pointer (some ⟨rb, 0, none⟩)) ∧ wz.cell? ⟨ob, 2, none⟩ = some (Value.int .i64 oN) ∧ wz.cell? ⟨ob, 3, none⟩ = some (Value.int .i64 oM)) (fun i => i == 8 || i == 99) 99 (by kernel_rfl) rfl (by kernel_rfl) (by kernel_rfl) (by kernel_rfl) ?_
  refine withFrP (N := 100) rfl ?_
  intro f0 F0 hff
  have ee0 : f0 0 = Value.pointer (some ⟨pb, 0, none⟩) := hff 0
  have ee3 : f0 3 = Value.pointer (some ⟨ob, 0, none⟩) := hff 3
  clear hff
  have HCC : (fun wz : World => wz.cell? ⟨pb, 0, none⟩ = some (Value.pointer (some ⟨p, 0, none⟩)) ∧ wz.cell? ⟨pb, 1, none⟩ = some (Value.pointer (some ⟨rb, 0, none⟩)) ∧ wz.cell? ⟨ob, 2, none⟩ = some (Value.int .i64 oN) ∧ wz.cell? ⟨ob, 3, none⟩ = some (Value.int .i64 oM)) (({ X with drawn := X.drawn + 1 } : World)) := HCX.out
  refine lyp F0 rfl HCC rfl (by omega) (wanted_none rfl) (v := Value.pointer (some ⟨pb, 0, none⟩)) (fun wr hwr => by simp only [execOp, (F0.eval 0 (by omega)).trans (show _ = Value.pointer (some ⟨pb, 0, none⟩) from by simp [upd, ee0, ee3])]; first | rfl | simp [go_sem]) fun F1 => ?_
  refine lyp F1 rfl HCC rfl (by omega) (wanted_none rfl) (v := Value.pointer (some ⟨pb, 0, none⟩)) (fun wr hwr => by simp only [execOp, (F1.eval 58 (by omega)).trans (show _ = Value.pointer (some ⟨pb, 0, none⟩) from by simp [upd, ee0, ee3])]; simp [go_sem]) fun F2 => ?_
  refine lyp F2 rfl HCC rfl (by omega) (wanted_none rfl) (v := Value.pointer (some ⟨pb, 0, none⟩)) (fun wr hwr => by simp only [execOp, (F2.eval 59 (by omega)).trans (show _ = Value.pointer (some ⟨pb, 0, none⟩) from by simp [upd, ee0, ee3])]; simp [go_sem]) fun F3 => ?_
  refine lyp F3 rfl HCC rfl (by omega) (wanted_none rfl) (v := Value.pointer (some ⟨p, 0, none⟩)) (fun wr hwr => by simp only [execOp, (F3.eval 60 (by omega)).trans (show _ = Value.pointer (some ⟨pb, 0, none⟩) from by simp [upd, ee0, ee3])]; simp [go_sem, hwr.1]) fun F4 => ?_
  refine lyp F4 rfl HCC rfl (by omega) (wanted_none rfl) (v := Value.pointer (some ⟨ob, 2, none⟩)) (fun wr hwr => by simp only [execOp, (F4.eval 3 (by omega)).trans (show _ = Value.pointer (some ⟨ob, 0, none⟩) from by simp [upd, ee0, ee3])]; simp [go_sem]) fun F5 => ?_
  refine lyp F5 rfl HCC rfl (by omega) (wanted_none rfl) (v := Value.int .i64 oN) (fun wr hwr => by simp only [execOp, (F5.eval 62 (by omega)).trans (show _ = Value.pointer (some ⟨ob, 2, none⟩) from by simp [upd, ee0, ee3])]; simp [go_sem, hwr.2.2.1]) fun F6 => ?_
  refine lyp F6 rfl HCC rfl (by omega) (wanted_none rfl) (v := Value.pointer (some ⟨ob, 3, none⟩)) (fun wr hwr => by simp only [execOp, (F6.eval 3 (by omega)).trans (show _ = Value.pointer (some ⟨ob, 0, none⟩) from by simp [upd, ee0, ee3])]; simp [go_sem]) fun F7 => ?_
  refine lyp F7 rfl HCC rfl (by omega) (wanted_none rfl) (v := Value.int .i64 oM) (fun wr hwr => by simp only [execOp, (F7.eval 64 (by omega)).trans (show _ = Value.pointer (some ⟨ob, 3, none⟩) from by simp [upd, ee0, ee3])]; simp [go_sem, hwr.2.2.2]) fun F8 => ?_
  refine lcp F8 rfl HCC rfl (by omega) (wanted_none rfl) (g := 22) (args := #[Value.pointer (some ⟨p, 0, none⟩), Value.int .i64 oN, Value.int .i64 oM]) (by simp only [execOp, resolve, invoke, List.map_toArray, List.map_cons, List.map_nil, (F8.eval 61 (by omega)).trans (show _ = Value.pointer (some ⟨p, 0, none⟩) from by simp [upd, ee0, ee3]), (F8.eval 63 (by omega)).trans (show _ = Value.int .i64 oN from by simp [upd, ee0, ee3]), (F8.eval 65 (by omega)).trans (show _ = Value.int .i64 oM from by simp [upd, ee0, ee3])]; simp [go_sem, Act.eval]) (HA1.out (({ X with drawn := X.drawn + 1 } : World)) (PA.dm (PH.keep0 HPX.out (fun _ => rfl)))) ?_
  rintro e9 w1 ⟨rfl, hd1, hc1⟩
  obtain ⟨hp1, hb1⟩ := PA.setD (w := ({ X with drawn := X.drawn + 1 } : World)) (PH.keep0 HPX.out (fun _ => rfl)) (fun k e => Or.inl e) hc1 hd1
  have hB1 : Blk w1 ob #[.int .i64 2, .int .i64 owho, .int .i64 oN, .int .i64 oM, bv] 58 := hc1.blk (w := ({ X with drawn := X.drawn + 1 } : World)) HBX.out (fun e => HOB.out p (Or.inl (Or.inl rfl)) e.symm)
  refine ⟨_, rfl, fun F9 => ?_⟩
  have HC9 : (fun wz : World => wz.cell? ⟨pb, 0, none⟩ = some (Value.pointer (some ⟨p, 0, none⟩)) ∧ wz.cell? ⟨pb, 1, none⟩ = some (Value.pointer (some ⟨rb, 0, none⟩)) ∧ wz.cell? ⟨ob, 2, none⟩ = some (Value.int .i64 oN) ∧ wz.cell? ⟨ob, 3, none⟩ = some (Value.int .i64 oM)) w1 := ⟨(PH.c0 hp1).1, (PH.c0 hp1).2, (hB1).cell 2, (hB1).cell 3⟩
  refine ⟨fun _ => HC9, ?_⟩
  refine hK _ _ ?_
  clear F0 F1 F2 F3 F4 F5 F6 F7 F8 F9 ee0 ee3 HCC HC9
  simp only [Act.put, List.setIfInBounds_toArray, List.set_cons_succ, List.set_cons_zero]
  clear o0
  have HP1 : Hid (PA L pb p s rb S fv lv lent n zs y r R w1 ∧ Below L w w1 ∧ Blk w1 ob #[.int .i64 2, .int .i64 owho, .int .i64 oN, .int .i64 oM, bv] 58) := ⟨hp1, (HBL.out.trans ⟨hb1.os, hb1.tape, hb1.output, hb1.size, hb1.block⟩), hB1⟩
  clear hd1 hc1 hb1
  clear HCX HPX HBX
  have HCX : Hid (w1.cell? ⟨pb, 0, none⟩ = some (Value.pointer (some ⟨p, 0, none⟩)) ∧ w1.cell? ⟨pb, 1, none⟩ = some (Value.pointer (some ⟨rb, 0, none⟩)) ∧ w1.cell? ⟨ob, 2, none⟩ = some (Value.int .i64 oN) ∧ w1.cell? ⟨ob, 3, none⟩ = some (Value.int .i64 oM)) := ⟨(PH.c0 hp1).1, (PH.c0 hp1).2, hB1.cell 2, hB1.cell 3⟩
  clear hp1 hB1
  go_wp2_with fail
  rename_i K hK
  try rw [show ∀ a : Act, a.put none undef = a from fun _ => rfl]
  refine wp_region_mix (fun wz : World => wz.cell? ⟨pb, 0, none⟩ = some (Value.pointer (some ⟨p, 0, none⟩)) ∧ wz.cell? ⟨pb, 1, none⟩ = some (Value.pointer (some ⟨rb, 0, none⟩)) ∧ wz.cell? ⟨ob, 2, none⟩ = some (Value.int .i64 oN) ∧ wz.cell? ⟨ob, 3, none⟩ = some (Value.int .i64 oM)) (fun i => i == 8 || i == 99) 99 (by kernel_rfl) rfl (by kernel_rfl) (by kernel_rfl) (by kernel_rfl) ?_
  refine withFrP (N := 100) rfl ?_
  intro f0 F0 hff
  have ee0 : f0 0 = Value.pointer (some ⟨pb, 0, none⟩) := hff 0
  have ee3 : f0 3 = Value.pointer (some ⟨ob, 0, none⟩) := hff 3
  clear hff
  have HCC : (fun wz : World => wz.cell? ⟨pb, 0, none⟩ = some (Value.pointer (some ⟨p, 0, none⟩)) ∧ wz.cell? ⟨pb, 1, none⟩ = some (Value.pointer (some ⟨rb, 0, none⟩)) ∧ wz.cell? ⟨ob, 2, none⟩ = some (Value.int .i64 oN) ∧ wz.cell? ⟨ob, 3, none⟩ = some (Value.int .i64 oM)) (({ w1 with drawn := w1.drawn + 1 } : World)) := HCX.out
  refine lyp F0 rfl HCC rfl (by omega) (wanted_none rfl) (v := Value.pointer (some ⟨pb, 0, none⟩)) (fun wr hwr => by simp only [execOp, (F0.eval 0 (by omega)).trans (show _ = Value.pointer (some ⟨pb, 0, none⟩) from by simp [upd, ee0, ee3])]; first | rfl | simp [go_sem]) fun F1 => ?_
  refine lyp F1 rfl HCC rfl (by omega) (wanted_none rfl) (v := Value.pointer (some ⟨pb, 0, none⟩)) (fun wr hwr => by simp only [execOp, (F1.eval 67 (by omega)).trans (show _ = Value.pointer (some ⟨pb, 0, none⟩) from by simp [upd, ee0, ee3])]; simp [go_sem]) fun F2 => ?_
  refine lyp F2 rfl HCC rfl (by omega) (wanted_none rfl) (v := Value.pointer (some ⟨pb, 1, none⟩)) (fun wr hwr => by simp only [execOp, (F2.eval 68 (by omega)).trans (show _ = Value.pointer (some ⟨pb, 0, none⟩) from by simp [upd, ee0, ee3])]; simp [go_sem]) fun F3 => ?_
  refine lyp F3 rfl HCC rfl (by omega) (wanted_none rfl) (v := Value.pointer (some ⟨rb, 0, none⟩)) (fun wr hwr => by simp only [execOp, (F3.eval 69 (by omega)).trans (show _ = Value.pointer (some ⟨pb, 1, none⟩) from by simp [upd, ee0, ee3])]; simp [go_sem, hwr.2.1]) fun F4 => ?_
  refine lyp F4 rfl HCC rfl (by omega) (wanted_none rfl) (v := Value.pointer (some ⟨ob, 2, none⟩)) (fun wr hwr => by simp only [execOp, (F4.eval 3 (by omega)).trans (show _ = Value.pointer (some ⟨ob, 0, none⟩) from by simp [upd, ee0, ee3])]; simp [go_sem]) fun F5 => ?_
  refine lyp F5 rfl HCC rfl (by omega) (wanted_none rfl) (v := Value.int .i64 oN) (fun wr hwr => by simp only [execOp, (F5.eval 71 (by omega)).trans (show _ = Value.pointer (some ⟨ob, 2, none⟩) from by simp [upd, ee0, ee3])]; simp [go_sem, hwr.2.2.1]) fun F6 => ?_
  refine lyp F6 rfl HCC rfl (by omega) (wanted_none rfl) (v := Value.pointer (some ⟨ob, 3, none⟩)) (fun wr hwr => by simp only [execOp, (F6.eval 3 (by omega)).trans (show _ = Value.pointer (some ⟨ob, 0, none⟩) from by simp [upd, ee0, ee3])]; simp [go_sem]) fun F7 => ?_
  refine lyp F7 rfl HCC rfl (by omega) (wanted_none rfl) (v := Value.int .i64 oM) (fun wr hwr => by simp only [execOp, (F7.eval 73 (by omega)).trans (show _ = Value.pointer (some ⟨ob, 3, none⟩) from by simp [upd, ee0, ee3])]; simp [go_sem, hwr.2.2.2]) fun F8 => ?_
  refine lcp F8 rfl HCC rfl (by omega) (wanted_none rfl) (g := 47) (args := #[Value.pointer (some ⟨rb, 0, none⟩), Value.int .i64 oN, Value.int .i64 oM]) (by simp only [execOp, resolve, invoke, List.map_toArray, List.map_cons, List.map_nil, (F8.eval 70 (by omega)).trans (show _ = Value.pointer (some ⟨rb, 0, none⟩) from by simp [upd, ee0, ee3]), (F8.eval 72 (by omega)).trans (show _ = Value.int .i64 oN from by simp [upd, ee0, ee3]), (F8.eval 74 (by omega)).trans (show _ = Value.int .i64 oM from by simp [upd, ee0, ee3])]; simp [go_sem, Act.eval]) (HA2.out (({ w1 with drawn := w1.drawn + 1 } : World)) (PA.rm (PH.keep0 HP1.out.1 (fun _ => rfl)))) ?_
  rintro e9 w2 ⟨rfl, hd2, hc2, hu2⟩
  obtain ⟨hp2, hb2⟩ := PA.setR (w := ({ w1 with drawn := w1.drawn + 1 } : World)) (PH.keep0 HP1.out.1 (fun _ => rfl)) (fun k e => Or.inl e) hc2 hd2 (fun k hk => Or.inl (hu2 k hk))
  have hB2 : Blk w2 ob #[.int .i64 2, .int .i64 owho, .int .i64 oN, .int .i64 oM, bv] 58 := hc2.blk (w := ({ w1 with drawn := w1.drawn + 1 } : World)) HP1.out.2.2 (fun e => HOB.out rb (Or.inr (Or.inl rfl)) e.symm)
  refine ⟨_, rfl, fun F9 => ?_⟩
  have HC9 : (fun wz : World => wz.cell? ⟨pb, 0, none⟩ = some (Value.pointer (some ⟨p, 0, none⟩)) ∧ wz.cell? ⟨pb, 1, none⟩ = some (Value.pointer (some ⟨rb, 0, none⟩)) ∧ wz.cell? ⟨ob, 2, none⟩ = some (Value.int .i64 oN) ∧ wz.cell? ⟨ob, 3, none⟩ = some (Value.int .i64 oM)) w2 := ⟨(PH.c0 hp2).1, (PH.c0 hp2).2, (hB2).cell 2, (hB2).cell 3⟩
  refine ⟨fun _ => HC9, ?_⟩
  clear F0 F1 F2 F3 F4 F5 F6 F7 F8 F9 ee0 ee3 HCC HC9
  simp only [Act.put, List.setIfInBounds_toArray, List.set_cons_succ, List.set_cons_zero]
  have HF : Hid (PA L pb p s rb S fv lv lent n zs y ry R w2 ∧ Below L w w2) := ⟨hp2, HP1.out.2.1.trans ⟨hb2.os, hb2.tape, hb2.output, hb2.size, hb2.block⟩⟩
  clear hd2 hc2 hb2 hp2 hB2 hu2 HP1 HCX
  go_wp2_with fail
  go_ret
  exact ⟨rfl, fv, lv, lent, zs, y, ry, HAG.out.1, HAG.out.2, HF.out.1, HF.out.2⟩
end
end Go.Proofs.Ytlajcaofpmjdlaa
