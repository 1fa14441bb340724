import Derived.Test.YtlajcaofpmjdlaaTe
import Derived.Deep.Cut
namespace Go.Proofs.Ytlajcaofpmjdlaa
open Go.RowKit Go.PlainAid
set_option linter.unusedVariables false
set_option linter.unusedSimpArgs false
section
variable {L pb p s rb : Nat} {S : SV} {lent fv lv bv : Value} {n : Nat} {x : DV} {r : RV} {R : List (Ent L)} {zs bs : List UInt8} {w w' : World}
/-- What both read. -/
theorem reads_both (oN : Int) (ha : AgD x r) (hx : r.log.length ≤ 1000) : ∃ (code : Int) (bsr : List UInt8), bsr.length ≤ 512 ∧ (∀ w', DM L p s x w' → Calls Try.prog 16 #[.pointer (some ⟨p, 0, none⟩), .int .i64 oN] w' fun e w2 => ∃ v, e = .returned (.tuple #[v, .int .i64 code]) ∧ w2.ownsRow w'.heap.size 5 1 v bsr.length (bsr.map B) ∧ Below w'.heap.size w' w2) ∧ (∀ w', RM L rb fv lv r w' → Calls Try.prog 50 #[.pointer (some ⟨rb, 0, none⟩), .int .i64 oN] w' fun e w2 => ∃ v, e = .returned (.tuple #[v, .int .i64 code]) ∧ w2.ownsRow w'.heap.size 5 1 v bsr.length (bsr.map B) ∧ Below w'.heap.size w' w2) := by
  by_cases hr : reachE x oN = 0
  · have h1 := hr
    unfold reachE at h1
    have hof : x.off = false := by
      cases ho : x.off with
      | false => rfl
      | true => rw [if_pos ho] at h1; exact absurd h1 (by decide)
    rw [if_neg (by rw [hof]; decide)] at h1
    have hin : ¬ (oN < 0 ∨ (x.n : Int) ≤ oN) := fun h => by rw [if_pos h] at h1; exact absurd h1 (by decide)
    have hon : r.on = true := by
      have := ha.off
      rw [hof] at this
      cases hr : r.on with
      | true => rfl
      | false => rw [hr] at this; cases this
    obtain ⟨i, hi⟩ : ∃ i : Nat, oN = (i : Int) := ⟨oN.toNat, by omega⟩
    subst hi
    have hl : (secL x.b i).length = 512 := by unfold secL; simp
    refine ⟨0, secL x.b i, by omega, fun w' hd => ?_, fun w' hd => ?_⟩
    · rw [hl]; exact read_yes i w' hd hof (by omega)
    · rw [hl, ha.b]; exact rread_yes i w' hd hon (by have := ha.n; omega) (by omega)
  · refine ⟨reachE x oN, [], Nat.zero_le _, fun w' hd => (read_no oN w' hd hr).mono ?_, fun w' hd => ?_⟩
    · rintro e w2 ⟨rfl, rfl⟩
      exact ⟨_, rfl, World.ownsRow_nil _ _ _ _, Below.refl _ _⟩
    · rw [ha.reach] at hr ⊢
      refine (rread_no oN w' hd hr).mono ?_
      rintro e w2 ⟨rfl, rfl⟩
      exact ⟨_, rfl, World.ownsRow_nil _ _ _ _, Below.refl _ _⟩
set_option maxRecDepth 100000 in
set_option maxHeartbeats 6400000 in
theorem tells_read (owho oN oM : Int) (w : World) (h : PA L pb p s rb S fv lv lent n zs x r R w) (hk : S.Ok n) (hn : n ≤ 10000) (ha : AgD x r) (hx : r.log.length ≤ 1000) :
    Calls Try.prog 42 #[.pointer (some ⟨pb, 0, none⟩), .agg #[.int .i64 5, .int .i64 owho, .int .i64 oN, .int .i64 oM, bv]] w (TelO L pb p s rb fv lv lent n zs x r R w) := by
  obtain ⟨ob, hob⟩ : ∃ b, b = w.heap.size := ⟨_, rfl⟩
  obtain ⟨X, hX⟩ : ∃ X, X = w.alloc (.cells #[.int .i64 5, .int .i64 owho, .int .i64 oN, .int .i64 oM, bv] 58) := ⟨_, rfl⟩
  have hbX : Below w.heap.size w X := by rw [hX]; exact (Below.refl _ _).alloc (Nat.le_refl _) _
  have hBX : Blk X ob #[.int .i64 5, .int .i64 owho, .int .i64 oN, .int .i64 oM, bv] 58 := by rw [hX, hob]; exact heap_alloc_new w _
  have hLw : L ≤ w.heap.size := PH.low h
  have hpX : PA L pb p s rb S fv lv lent n zs x r R X := PH.more h hbX
  have HBL : Hid (Below L w X) := hbX.mono hLw
  have o0 : X.cell? ⟨ob, 0, none⟩ = some (.int .i64 5) := hBX.cell 0
  have HPX : Hid (PA L pb p s rb S fv lv lent n zs x r R X) := hpX
  have HOK : Hid (S.Ok n ∧ n ≤ 10000) := ⟨hk, hn⟩
  have HAG : Hid (AgD x r ∧ r.log.length ≤ 1000) := ⟨ha, hx⟩
  have HBX : Hid (Blk X ob #[.int .i64 5, .int .i64 owho, .int .i64 oN, .int .i64 oM, bv] 58) := hBX
  obtain ⟨code, bsr, hbl, H1, H2⟩ := reads_both (L := L) (p := p) (s := s) (rb := rb) (fv := fv) (lv := lv) oN ha hx
  have HCX : Hid ((fun wz : World => wz.cell? ⟨pb, 0, none⟩ = some (Value.pointer (some ⟨p, 0, none⟩)) ∧ wz.cell? ⟨pb, 1, none⟩ = some (Value.pointer (some ⟨rb, 0, none⟩)) ∧ wz.cell? ⟨ob, 2, none⟩ = some (Value.int .i64 oN)) X) := ⟨(PH.c0 hpX).1, (PH.c0 hpX).2, hBX.cell 2⟩
  have HA1 : Hid _ := H1
  have HA2 : Hid _ := H2
  have HL : Hid (bsr.length ≤ 512) := hbl
  clear H1 H2 hbl
  clear h hk hn ha hx hLw hpX hbX hBX
  go_enter Try.func42, Try.ntmps42
  go_upto_region 1 with fail
  rw [← hX, ← hob]
  clear hX hob
  go_wp2_with fail
  rename_i K hK
  try rw [show ∀ a : Act, a.put none undef = a from fun _ => rfl]
  refine wp_region_mix (fun wz : World => wz.cell? ⟨pb, 0, none⟩ = some (Value.pointer (some ⟨p, 0, none⟩)) ∧ wz.cell? ⟨pb, 1, none⟩ = some (Value.pointer (some ⟨rb, 0, none⟩)) ∧ wz.cell? ⟨ob, 2, none⟩ = some (Value.int .i64 oN)) (fun i => i == 6 || i == 99) 99 (by kernel_rfl) rfl (by kernel_rfl) (by kernel_rfl) (by kernel_rfl) ?_
  refine withFrP (N := 174) rfl ?_
  intro f0 F0 hff
  have ee0 : f0 0 = Value.pointer (some ⟨pb, 0, none⟩) := hff 0
  have ee3 : f0 3 = Value.pointer (some ⟨ob, 0, none⟩) := hff 3
  clear hff
  have HCC : (fun wz : World => wz.cell? ⟨pb, 0, none⟩ = some (Value.pointer (some ⟨p, 0, none⟩)) ∧ wz.cell? ⟨pb, 1, none⟩ = some (Value.pointer (some ⟨rb, 0, none⟩)) ∧ wz.cell? ⟨ob, 2, none⟩ = some (Value.int .i64 oN)) (({ X with drawn := X.drawn + 1 } : World)) := HCX.out
  refine lyp F0 rfl HCC rfl (by omega) (wanted_none rfl) (v := Value.pointer (some ⟨pb, 0, none⟩)) (fun wr hwr => by simp only [execOp, (F0.eval 0 (by omega)).trans (show _ = Value.pointer (some ⟨pb, 0, none⟩) from by simp [upd, ee0, ee3])]; first | rfl | simp [go_sem]) fun F1 => ?_
  refine lyp F1 rfl HCC rfl (by omega) (wanted_none rfl) (v := Value.pointer (some ⟨pb, 0, none⟩)) (fun wr hwr => by simp only [execOp, (F1.eval 20 (by omega)).trans (show _ = Value.pointer (some ⟨pb, 0, none⟩) from by simp [upd, ee0, ee3])]; simp [go_sem]) fun F2 => ?_
  refine lyp F2 rfl HCC rfl (by omega) (wanted_none rfl) (v := Value.pointer (some ⟨pb, 0, none⟩)) (fun wr hwr => by simp only [execOp, (F2.eval 21 (by omega)).trans (show _ = Value.pointer (some ⟨pb, 0, none⟩) from by simp [upd, ee0, ee3])]; simp [go_sem]) fun F3 => ?_
  refine lyp F3 rfl HCC rfl (by omega) (wanted_none rfl) (v := Value.pointer (some ⟨p, 0, none⟩)) (fun wr hwr => by simp only [execOp, (F3.eval 22 (by omega)).trans (show _ = Value.pointer (some ⟨pb, 0, none⟩) from by simp [upd, ee0, ee3])]; simp [go_sem, hwr.1]) fun F4 => ?_
  refine lyp F4 rfl HCC rfl (by omega) (wanted_none rfl) (v := Value.pointer (some ⟨ob, 2, none⟩)) (fun wr hwr => by simp only [execOp, (F4.eval 3 (by omega)).trans (show _ = Value.pointer (some ⟨ob, 0, none⟩) from by simp [upd, ee0, ee3])]; simp [go_sem]) fun F5 => ?_
  refine lyp F5 rfl HCC rfl (by omega) (wanted_none rfl) (v := Value.int .i64 oN) (fun wr hwr => by simp only [execOp, (F5.eval 24 (by omega)).trans (show _ = Value.pointer (some ⟨ob, 2, none⟩) from by simp [upd, ee0, ee3])]; simp [go_sem, hwr.2.2]) fun F6 => ?_
  refine lcp F6 rfl HCC rfl (by omega) (wanted_none rfl) (g := 16) (args := #[Value.pointer (some ⟨p, 0, none⟩), Value.int .i64 oN]) (by simp only [execOp, resolve, invoke, List.map_toArray, List.map_cons, List.map_nil, (F6.eval 23 (by omega)).trans (show _ = Value.pointer (some ⟨p, 0, none⟩) from by simp [upd, ee0, ee3]), (F6.eval 25 (by omega)).trans (show _ = Value.int .i64 oN from by simp [upd, ee0, ee3])]; simp [go_sem, Act.eval]) (HA1.out (({ X with drawn := X.drawn + 1 } : World)) (PA.dm (PH.keep0 HPX.out (fun _ => rfl)))) ?_
  rintro e9 w1 ⟨v5, rfl, hr1, hb1⟩
  have hb1' : Below X.heap.size X w1 := ⟨hb1.os, hb1.tape, hb1.output, hb1.size, hb1.block⟩
  have hB1 : Blk w1 ob #[.int .i64 5, .int .i64 owho, .int .i64 oN, .int .i64 oM, bv] 58 := HBX.out.below hb1' HBX.out.lt
  have hp1 : PA L pb p s rb S fv lv lent n zs x r R w1 := PH.more HPX.out hb1'
  refine ⟨_, rfl, fun F7 => ?_⟩
  have HC1 : (fun wz : World => wz.cell? ⟨pb, 0, none⟩ = some (Value.pointer (some ⟨p, 0, none⟩)) ∧ wz.cell? ⟨pb, 1, none⟩ = some (Value.pointer (some ⟨rb, 0, none⟩)) ∧ wz.cell? ⟨ob, 2, none⟩ = some (Value.int .i64 oN)) w1 := ⟨(PH.c0 hp1).1, (PH.c0 hp1).2, hB1.cell 2⟩
  refine lyp F7 rfl HC1 rfl (by omega) (wanted_none rfl) (v := Value.tuple #[v5, .int .i64 code]) (fun wr hwr => by simp only [execOp, (F7.eval 26 (by omega)).trans (show _ = Value.tuple #[v5, .int .i64 code] from by simp [upd, ee0, ee3])]; first | rfl | simp [go_sem]) fun F8 => ?_
  refine lyp F8 rfl HC1 rfl (by omega) (wanted_none rfl) (v := v5) (fun wr hwr => by simp only [execOp, (F8.eval 19 (by omega)).trans (show _ = Value.tuple #[v5, .int .i64 code] from by simp [upd, ee0, ee3])]; simp [go_sem]) fun F9 => ?_
  refine lyp F9 rfl HC1 rfl (by omega) (wanted_none rfl) (v := Value.int .i64 code) (fun wr hwr => by simp only [execOp, (F9.eval 19 (by omega)).trans (show _ = Value.tuple #[v5, .int .i64 code] from by simp [upd, ee0, ee3])]; simp [go_sem]) fun F10 => ?_
  refine lyp F10 rfl HC1 rfl (by omega) (wanted_none rfl) (v := v5) (fun wr hwr => by simp only [execOp, (F10.eval 27 (by omega)).trans (show _ = v5 from by simp [upd, ee0, ee3])]; first | rfl | simp [go_sem]) fun F11 => ?_
  refine lyp F11 rfl HC1 rfl (by omega) (wanted_none rfl) (v := Value.int .i64 code) (fun wr hwr => by simp only [execOp, (F11.eval 28 (by omega)).trans (show _ = Value.int .i64 code from by simp [upd, ee0, ee3])]; first | rfl | simp [go_sem]) fun F12 => ?_
  refine ⟨fun _ => HC1, ?_⟩
  refine hK _ _ ?_
  clear F0 F1 F2 F3 F4 F5 F6 F7 F8 F9 F10 F11 F12 ee0 ee3 HCC HC1
  simp only [Act.put, List.setIfInBounds_toArray, List.set_cons_succ, List.set_cons_zero]
  obtain ⟨ao5, c5, hv5, _⟩ := own_slice hr1
  subst hv5
  have hr1 : w1.ownsRow X.heap.size 5 1 (.slice ao5 bsr.length c5) bsr.length (bsr.map B) := hr1
  have hq1 : PH L pb S (Value.pointer (some ⟨p, 0, none⟩)) (Value.pointer (some ⟨rb, 0, none⟩)) lent n ([datE L (.slice ao5 bsr.length c5, bsr)] ++ (dmE L p s x :: rdE L rb fv lv r :: datE L (lent, zs) :: R)) w1 := PH.addX HPX.out hb1' (ownsRow_mono (base' := L) hr1 (PH.low HPX.out)) (fun k hk => (ownsRow_lt hr1 hk).1)
  have HP1 : Hid (PH L pb S (Value.pointer (some ⟨p, 0, none⟩)) (Value.pointer (some ⟨rb, 0, none⟩)) lent n ([datE L (.slice ao5 bsr.length c5, bsr)] ++ (dmE L p s x :: rdE L rb fv lv r :: datE L (lent, zs) :: R)) w1 ∧ Below L w w1 ∧ By w1 (.slice ao5 bsr.length c5) bsr) := ⟨hq1, HBL.out.trans (hb1'.mono (PH.low HPX.out)), own_by hr1⟩
  clear HCX
  have HCX : Hid ((fun wz : World => wz.cell? ⟨pb, 0, none⟩ = some (Value.pointer (some ⟨p, 0, none⟩)) ∧ wz.cell? ⟨pb, 1, none⟩ = some (Value.pointer (some ⟨rb, 0, none⟩)) ∧ wz.cell? ⟨ob, 2, none⟩ = some (Value.int .i64 oN)) w1) := ⟨(PH.c0 hp1).1, (PH.c0 hp1).2, hB1.cell 2⟩
  have HB1 : Hid (Blk w1 ob #[.int .i64 5, .int .i64 owho, .int .i64 oN, .int .i64 oM, bv] 58) := hB1
  clear HPX HBX HBL o0 hr1 hb1 hb1' hp1 hB1 hq1
  go_wp2_with fail
  rename_i K hK
  try rw [show ∀ a : Act, a.put none undef = a from fun _ => rfl]
  refine wp_region_mix (fun wz : World => wz.cell? ⟨pb, 0, none⟩ = some (Value.pointer (some ⟨p, 0, none⟩)) ∧ wz.cell? ⟨pb, 1, none⟩ = some (Value.pointer (some ⟨rb, 0, none⟩)) ∧ wz.cell? ⟨ob, 2, none⟩ = some (Value.int .i64 oN)) (fun i => i == 6 || i == 99) 99 (by kernel_rfl) rfl (by kernel_rfl) (by kernel_rfl) (by kernel_rfl) ?_
  refine withFrP (N := 174) rfl ?_
  intro f0 F0 hff
  have ee0 : f0 0 = Value.pointer (some ⟨pb, 0, none⟩) := hff 0
  have ee3 : f0 3 = Value.pointer (some ⟨ob, 0, none⟩) := hff 3
  clear hff
  have HCC : (fun wz : World => wz.cell? ⟨pb, 0, none⟩ = some (Value.pointer (some ⟨p, 0, none⟩)) ∧ wz.cell? ⟨pb, 1, none⟩ = some (Value.pointer (some ⟨rb, 0, none⟩)) ∧ wz.cell? ⟨ob, 2, none⟩ = some (Value.int .i64 oN)) (({ w1 with drawn := w1.drawn + 1 } : World)) := HCX.out
  refine lyp F0 rfl HCC rfl (by omega) (wanted_none rfl) (v := Value.pointer (some ⟨pb, 0, none⟩)) (fun wr hwr => by simp only [execOp, (F0.eval 0 (by omega)).trans (show _ = Value.pointer (some ⟨pb, 0, none⟩) from by simp [upd, ee0, ee3])]; first | rfl | simp [go_sem]) fun F1 => ?_
  refine lyp F1 rfl HCC rfl (by omega) (wanted_none rfl) (v := Value.pointer (some ⟨pb, 0, none⟩)) (fun wr hwr => by simp only [execOp, (F1.eval 30 (by omega)).trans (show _ = Value.pointer (some ⟨pb, 0, none⟩) from by simp [upd, ee0, ee3])]; simp [go_sem]) fun F2 => ?_
  refine lyp F2 rfl HCC rfl (by omega) (wanted_none rfl) (v := Value.pointer (some ⟨pb, 1, none⟩)) (fun wr hwr => by simp only [execOp, (F2.eval 31 (by omega)).trans (show _ = Value.pointer (some ⟨pb, 0, none⟩) from by simp [upd, ee0, ee3])]; simp [go_sem]) fun F3 => ?_
  refine lyp F3 rfl HCC rfl (by omega) (wanted_none rfl) (v := Value.pointer (some ⟨rb, 0, none⟩)) (fun wr hwr => by simp only [execOp, (F3.eval 32 (by omega)).trans (show _ = Value.pointer (some ⟨pb, 1, none⟩) from by simp [upd, ee0, ee3])]; simp [go_sem, hwr.2.1]) fun F4 => ?_
  refine lyp F4 rfl HCC rfl (by omega) (wanted_none rfl) (v := Value.pointer (some ⟨ob, 2, none⟩)) (fun wr hwr => by simp only [execOp, (F4.eval 3 (by omega)).trans (show _ = Value.pointer (some ⟨ob, 0, none⟩) from by simp [upd, ee0, ee3])]; simp [go_sem]) fun F5 => ?_
  refine lyp F5 rfl HCC rfl (by omega) (wanted_none rfl) (v := Value.int .i64 oN) (fun wr hwr => by simp only [execOp, (F5.eval 34 (by omega)).trans (show _ = Value.pointer (some ⟨ob, 2, none⟩) from by simp [upd, ee0, ee3])]; simp [go_sem, hwr.2.2]) fun F6 => ?_
  refine lcp F6 rfl HCC rfl (by omega) (wanted_none rfl) (g := 50) (args := #[Value.pointer (some ⟨rb, 0, none⟩), Value.int .i64 oN]) (by simp only [execOp, resolve, invoke, List.map_toArray, List.map_cons, List.map_nil, (F6.eval 33 (by omega)).trans (show _ = Value.pointer (some ⟨rb, 0, none⟩) from by simp [upd, ee0, ee3]), (F6.eval 35 (by omega)).trans (show _ = Value.int .i64 oN from by simp [upd, ee0, ee3])]; simp [go_sem, Act.eval]) (HA2.out (({ w1 with drawn := w1.drawn + 1 } : World)) (PH.getR (X := rdE L rb fv lv r) (PH.keep0 HP1.out.1 (fun _ => rfl)) (by simp))) ?_
  rintro e9 w2 ⟨v7, rfl, hr2, hb2⟩
  have hb2' : Below w1.heap.size w1 w2 := ⟨hb2.os, hb2.tape, hb2.output, hb2.size, hb2.block⟩
  refine ⟨_, rfl, fun F7 => ?_⟩
  have HC1 : (fun wz : World => wz.cell? ⟨pb, 0, none⟩ = some (Value.pointer (some ⟨p, 0, none⟩)) ∧ wz.cell? ⟨pb, 1, none⟩ = some (Value.pointer (some ⟨rb, 0, none⟩)) ∧ wz.cell? ⟨ob, 2, none⟩ = some (Value.int .i64 oN)) w2 := ⟨(PH.c0 (PH.more HP1.out.1 hb2')).1, (PH.c0 (PH.more HP1.out.1 hb2')).2, (HB1.out.below hb2' HB1.out.lt).cell 2⟩
  refine lyp F7 rfl HC1 rfl (by omega) (wanted_none rfl) (v := Value.tuple #[v7, .int .i64 code]) (fun wr hwr => by simp only [execOp, (F7.eval 36 (by omega)).trans (show _ = Value.tuple #[v7, .int .i64 code] from by simp [upd, ee0, ee3])]; first | rfl | simp [go_sem]) fun F8 => ?_
  refine lyp F8 rfl HC1 rfl (by omega) (wanted_none rfl) (v := v7) (fun wr hwr => by simp only [execOp, (F8.eval 29 (by omega)).trans (show _ = Value.tuple #[v7, .int .i64 code] from by simp [upd, ee0, ee3])]; simp [go_sem]) fun F9 => ?_
  refine lyp F9 rfl HC1 rfl (by omega) (wanted_none rfl) (v := Value.int .i64 code) (fun wr hwr => by simp only [execOp, (F9.eval 29 (by omega)).trans (show _ = Value.tuple #[v7, .int .i64 code] from by simp [upd, ee0, ee3])]; simp [go_sem]) fun F10 => ?_
  refine lyp F10 rfl HC1 rfl (by omega) (wanted_none rfl) (v := v7) (fun wr hwr => by simp only [execOp, (F10.eval 37 (by omega)).trans (show _ = v7 from by simp [upd, ee0, ee3])]; first | rfl | simp [go_sem]) fun F11 => ?_
  refine lyp F11 rfl HC1 rfl (by omega) (wanted_none rfl) (v := Value.int .i64 code) (fun wr hwr => by simp only [execOp, (F11.eval 38 (by omega)).trans (show _ = Value.int .i64 code from by simp [upd, ee0, ee3])]; first | rfl | simp [go_sem]) fun F12 => ?_
  refine ⟨fun _ => HC1, ?_⟩
  refine hK _ _ ?_
  clear F0 F1 F2 F3 F4 F5 F6 F7 F8 F9 F10 F11 F12 ee0 ee3 HCC HC1
  simp only [Act.put, List.setIfInBounds_toArray, List.set_cons_succ, List.set_cons_zero]
  have hq2 := PH.more HP1.out.1 hb2'
  have hsm := same_any w2 (HP1.out.2.2.keep hb2') (own_by hr2)
  rw [show (bsr == bsr) = true from by simp] at hsm
  have HSM : Hid _ := hsm
  have HAN : Hid _ := answered_any w2 hq2 HOK.out.1 HOK.out.2 rfl (by have := HL.out; omega)
  have HBB : Hid (Below L w w2) := HP1.out.2.1.trans (hb2'.mono (PH.low HP1.out.1))
  have HN := num_any code w2
  have hce : (code == code) = true := by simp
  clear HP1 HCX hr2 hb2 hb2' hq2 hsm HA1 HA2
  go_wp2_with fail
  refine Calls.mono HN ?_
  rintro e w3 ⟨rfl, hw3⟩
  replace hw3 := hw3.symm
  subst hw3
  clear HN
  go_wp2_with fail
  refine Calls.mono HSM.out ?_
  rintro e w3 ⟨rfl, hw3⟩
  replace hw3 := hw3.symm
  subst hw3
  clear HSM
  go_wp2_with fail
  refine Calls.mono HAN.out ?_
  rintro e w3 ⟨S3, rfl, hk3, hp3, hb3⟩
  have HF : Hid (S3.Ok (n + 1) ∧ PA L pb p s rb S3 fv lv lent (n + 1) zs x r R w3 ∧ Below L w w3) := ⟨hk3, hp3, HBB.out.trans hb3⟩
  clear HAN HBB hk3 hp3 hb3
  go_wp2_with fail
  go_ret
  exact ⟨rfl, S3, n + 1, Nat.le_refl _, HF.out.1, HF.out.2.1, HF.out.2.2⟩
set_option maxRecDepth 100000 in
set_option maxHeartbeats 6400000 in
theorem tells_image (owho oN oM : Int) (w : World) (h : PA L pb p s rb S fv lv lent n zs x r R w) (hk : S.Ok n) (hn : n ≤ 10000) (ha : AgD x r) (hx : r.log.length ≤ 1000) :
    Calls Try.prog 42 #[.pointer (some ⟨pb, 0, none⟩), .agg #[.int .i64 10, .int .i64 owho, .int .i64 oN, .int .i64 oM, bv]] w (TelO L pb p s rb fv lv lent n zs x r R w) := by
  obtain ⟨ob, hob⟩ : ∃ b, b = w.heap.size := ⟨_, rfl⟩
  obtain ⟨X, hX⟩ : ∃ X, X = w.alloc (.cells #[.int .i64 10, .int .i64 owho, .int .i64 oN, .int .i64 oM, bv] 58) := ⟨_, rfl⟩
  have hbX : Below w.heap.size w X := by rw [hX]; exact (Below.refl _ _).alloc (Nat.le_refl _) _
  have hBX : Blk X ob #[.int .i64 10, .int .i64 owho, .int .i64 oN, .int .i64 oM, bv] 58 := by rw [hX, hob]; exact heap_alloc_new w _
  have hLw : L ≤ w.heap.size := PH.low h
  have hpX : PA L pb p s rb S fv lv lent n zs x r R X := PH.more h hbX
  have HBL : Hid (Below L w X) := hbX.mono hLw
  have o0 : X.cell? ⟨ob, 0, none⟩ = some (.int .i64 10) := hBX.cell 0
  have HPX : Hid (PA L pb p s rb S fv lv lent n zs x r R X) := hpX
  have HOK : Hid (S.Ok n ∧ n ≤ 10000) := ⟨hk, hn⟩
  have HAG : Hid (AgD x r ∧ r.log.length ≤ 1000) := ⟨ha, hx⟩
  have HBX : Hid (Blk X ob #[.int .i64 10, .int .i64 owho, .int .i64 oN, .int .i64 oM, bv] 58) := hBX
  have k0 := (PH.c0 hpX).1
  have HI1 : Hid _ := image_any X (PA.dm hpX)
  clear h hk hn ha hx hLw hpX hbX hBX
  go_enter Try.func42, Try.ntmps42
  go_upto_region 1 with fail
  rw [← hX, ← hob]
  clear hX hob
  go_wp2_with fail
  refine Calls.mono HI1.out ?_
  rintro e w1 ⟨v5, rfl, hr1, hb1⟩
  clear HI1 k0
  obtain ⟨ao5, c5, hv5, _⟩ := own_slice hr1
  subst hv5
  have hil : (imgL x).length = 512 * x.n := by have := hr1.1; simpa using this
  have hr1' : w1.ownsRow X.heap.size 5 1 (.slice ao5 (512 * x.n) c5) (imgL x).length ((imgL x).map B) := by rw [hil]; exact hr1
  have hq1 : PH L pb S (Value.pointer (some ⟨p, 0, none⟩)) (Value.pointer (some ⟨rb, 0, none⟩)) lent n ([datE L (.slice ao5 (512 * x.n) c5, imgL x)] ++ (dmE L p s x :: rdE L rb fv lv r :: datE L (lent, zs) :: R)) w1 := PH.addX HPX.out hb1 (ownsRow_mono (base' := L) hr1' (PH.low HPX.out)) (fun k hk => (ownsRow_lt hr1 hk).1)
  have HIL : Hid ((imgL x).length = 512 * x.n ∧ x.n ≤ 65536) := ⟨hil, (PA.dm HPX.out).nb.2⟩
  have HP1 : Hid (PH L pb S (Value.pointer (some ⟨p, 0, none⟩)) (Value.pointer (some ⟨rb, 0, none⟩)) lent n ([datE L (.slice ao5 (512 * x.n) c5, imgL x)] ++ (dmE L p s x :: rdE L rb fv lv r :: datE L (lent, zs) :: R)) w1 ∧ Below L w w1 ∧ By w1 (.slice ao5 (512 * x.n) c5) (imgL x)) := ⟨hq1, HBL.out.trans (hb1.mono (PH.low HPX.out)), own_by hr1'⟩
  have k1 := (PH.c0 hq1).2
  have HI2 : Hid _ := rimage_any w1 (PH.getR (X := rdE L rb fv lv r) hq1 (by simp)) (by have := HAG.out.2; omega)
  clear HPX HBX HBL o0 hr1 hb1 hq1 hr1' hil
  go_wp2_with fail
  refine Calls.mono HI2.out ?_
  rintro e w2 ⟨v7, rfl, hr2, hb2⟩
  clear HI2 k1
  have hq2 := PH.more HP1.out.1 hb2
  have hyl : ((List.range (512 * r.n)).map r.b) = imgL x := HAG.out.1.image.symm
  rw [hyl] at hr2
  have hsm := same_any w2 (HP1.out.2.2.keep hb2) (own_by (s := imgL x) (by rw [HIL.out.1, HAG.out.1.n]; exact hr2))
  rw [show (imgL x == imgL x) = true from by simp] at hsm
  have HSM : Hid _ := hsm
  have HAN : Hid _ := answered_any w2 hq2 HOK.out.1 HOK.out.2 HIL.out.1 (by have := HIL.out; omega)
  have HBB : Hid (Below L w w2) := HP1.out.2.1.trans (hb2.mono (PH.low HP1.out.1))
  clear HP1 hr2 hb2 hq2 hsm hyl
  go_wp2_with fail
  refine Calls.mono HSM.out ?_
  rintro e w3 ⟨rfl, hw3⟩
  replace hw3 := hw3.symm
  subst hw3
  clear HSM
  go_wp2_with fail
  refine Calls.mono HAN.out ?_
  rintro e w3 ⟨S3, rfl, hk3, hp3, hb3⟩
  have HF : Hid (S3.Ok (n + 1) ∧ PA L pb p s rb S3 fv lv lent (n + 1) zs x r R w3 ∧ Below L w w3) := ⟨hk3, hp3, HBB.out.trans hb3⟩
  clear HAN HBB hk3 hp3 hb3
  go_wp2_with fail
  go_ret
  exact ⟨rfl, S3, n + 1, Nat.le_refl _, HF.out.1, HF.out.2.1, HF.out.2.2⟩
end
end Go.Proofs.Ytlajcaofpmjdlaa
