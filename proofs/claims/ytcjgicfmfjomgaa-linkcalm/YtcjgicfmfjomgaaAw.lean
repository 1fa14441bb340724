import Derived.Test.YtcjgicfmfjomgaaOu
namespace Go.Proofs.Ytcjgicfmfjomgaa
open Go.RowKit Go.PlainAid Go.MapKept
set_option linter.unusedVariables false
set_option linter.unusedSimpArgs false
def LV.wait (x : LV) (q : Int) (d : Dv) : LV := { x with early := x.early ++ [(q, d)] }
def mayWait (x : LV) (q : Int) : Bool := decide (x.next ≤ q) && decide (q < x.next + (x.win : Int)) && !(x.early.any fun p => decide (p.1 = q))
def WaitTo (x : LV) (q : Int) (s : List UInt8) (x' : LV) : Prop := if mayWait x q = true then ∃ v', x' = x.wait q ⟨v', s⟩ else x' = x
theorem all_wait (x : LV) (q : Int) (d : Dv) : (x.wait q d).all.Perm (d :: x.all) := by
  unfold LV.all LV.wait
  simp only [List.map_append, List.map_cons, List.map_nil]
  rw [← List.append_assoc]
  exact List.perm_append_singleton d _
/-- Data that came too early waits. -/
theorem LM.wait {L lb cb mb : Nat} {uv v : Value} {x : LV} {s : List UInt8} {q : Int} {w w1 w2 : World} (h : LM L lb cb mb uv x w) (hb : Below w.heap.size w w1) (hv : w1.ownsRow w.heap.size 5 1 v s.length (s.map B)) (hm : HMap MB w2 mb ((x.early.map fun p => (p.1, p.2.v)) ++ [(q, v)])) (hc : Chg (fun k => k = mb) w1 w2) :
    LM L lb cb mb uv (x.wait q ⟨v, s⟩) w2 ∧ LStp lb cb mb uv uv x (x.wait q ⟨v, s⟩) w w2 := by
  have h1 := h.more hb
  obtain ⟨s0, r0, hcc⟩ := h1.c
  have hLw : L ≤ w.heap.size := Nat.le_trans h.lo.1 (Nat.le_of_lt h.b.lt)
  have hty : ∀ {t z n M : Nat} {u : Value} {xs : List Value}, w1.ownsRow M t z u n xs → w2.ownsRow M t z u n xs := fun hu => ownsRow_same hu (fun g e => hc.block g (ownsRow_lt hu e).2 (fun e2 => by
    obtain ⟨cur, hcur⟩ := ownsRow_type hu e
    exact h1.m.ne_b hcur e2))
  refine ⟨⟨?_, ⟨s0, r0, ?_⟩, hty h1.u, ?_, fun d hd => ?_, ?_, h.lo⟩, ?_, fun k hk => ?_⟩
  · exact hc.blk h1.b (fun e => h1.m.ne_b h1.b e)
  · refine (hc.block cb h1.clt (fun e => ?_)).trans hcc
    obtain ⟨es, cl, hm1, _⟩ := h1.m
    rw [e] at hcc
    have := hm1.symm.trans hcc
    cases this
  · simpa [LV.wait] using hm
  · have hd' := (all_wait x q ⟨v, s⟩).mem_iff.1 hd
    rcases List.mem_cons.1 hd' with rfl | hd'
    · exact ownsRow_mono (hty hv) hLw
    · exact hty (h1.dt d hd')
  · refine (List.Perm.pairwise_iff (fun {a b} hab g h1 h2 => hab g h2 h1) (all_wait x q ⟨v, s⟩)).2 (List.pairwise_cons.2 ⟨fun e he g h2 h3 => ?_, h.dj⟩)
    have h4 := (ownsRow_lt (h.dt e he) h3).2
    have h5 := (ownsRow_lt hv h2).1
    omega
  · exact (Chg.ofBelow (lown lb cb mb uv x) hb).trans (hc.mono (B := lown lb cb mb uv x) (fun j _ e => .inr (.inr (.inl e)))) (fun _ _ e => e)
  · rcases hk with q | q | q | q | ⟨d, hd, q⟩
    · exact .inl (.inl q)
    · exact .inl (.inr (.inl q))
    · exact .inl (.inr (.inr (.inl q)))
    · exact .inl (.inr (.inr (.inr (.inl q))))
    · have hd' := (all_wait x _ ⟨v, s⟩).mem_iff.1 hd
      rcases List.mem_cons.1 hd' with rfl | hd'
      · exact .inr (ownsRow_lt hv q).1
      · exact .inl (.inr (.inr (.inr (.inr ⟨d, hd', q⟩))))
theorem look_any {q : Int} : ∀ (E : List (Int × Dv)), (look q (E.map fun p => (p.1, p.2.v))).isSome = E.any fun p => decide (p.1 = q)
  | [] => rfl
  | p :: t => by
    have ih := look_any (q := q) t
    unfold look at ih ⊢
    by_cases e : p.1 = q
    · simp [e]
    · have e' : ¬ q = p.1 := fun h => e h.symm
      simp only [List.map_cons, List.find?_cons, decide_eq_false e', List.any_cons, decide_eq_false e, Bool.false_or]
      exact ih
set_option maxRecDepth 100000 in
set_option maxHeartbeats 3200000 in
theorem await_any {L lb cb mb : Nat} {uv v : Value} {x : LV} {s : List UInt8} (q : Int) (w : World) (h : LM L lb cb mb uv x w) (hn : 1 ≤ x.next ∧ x.next ≤ 1099511627777) (hw : x.win ≤ 16) (hd : By w v s) (hsl : s.length ≤ 1000000) :
    Calls Try.prog 38 #[.pointer (some ⟨lb, 0, none⟩), .int .i64 q, v] w fun e w' => e = .returned (.tuple #[]) ∧ ∃ x', WaitTo x q s x' ∧ LM L lb cb mb uv x' w' ∧ LStp lb cb mb uv uv x x' w w' := by
  have c9 : w.cell? ⟨lb, 9, none⟩ = some (.int .i64 x.next) := h.b.cell 9
  have c2 : w.cell? ⟨lb, 2, none⟩ = some (.int .i64 (x.win : Int)) := h.b.cell 2
  obtain ⟨ao, k, c, hv, hk, hrest⟩ := id hd
  clear hrest
  subst hk
  subst hv
  obtain ⟨hn1, hn2⟩ := hn
  have hwr : IntKind.i64.wrap (x.next + (x.win : Int)) = x.next + (x.win : Int) := by rw [IntKind.wrap_i64]; omega
  have HM0 : Hid _ := h
  have HD0 : Hid (By w (.slice ao s.length c) s) := hd
  clear h hd
  by_cases h1 : q < x.next
  · have h1b : decide (q < x.next) = true := decide_eq_true h1
    have HMW : Hid (mayWait x q = false) := show mayWait x q = false from by unfold mayWait; simp; omega
    go_enter Try.func38, Try.ntmps38
    go_wp2_with fail
    go_quiet (fail)
    go_wp2_with fail
    refine bodyPost_ret (results_none rfl _ _ _) rfl ?_
    exact ⟨rfl, x, by unfold WaitTo; rw [HMW.out]; simp, HM0.out.more ⟨rfl, rfl, rfl, Nat.le_refl _, fun _ _ => rfl⟩, LStp.refl ⟨rfl, rfl, rfl, Nat.le_refl _, fun _ _ => rfl⟩⟩
  · have h1b : decide (q < x.next) = false := decide_eq_false h1
    by_cases h2 : x.next + (x.win : Int) ≤ q
    · have h2b : decide (x.next + (x.win : Int) ≤ q) = true := decide_eq_true h2
      have HMW : Hid (mayWait x q = false) := show mayWait x q = false from by unfold mayWait; simp; omega
      go_enter Try.func38, Try.ntmps38
      go_wp2_with fail
      go_quiet (fail)
      go_wp2_with fail
      refine bodyPost_ret (results_none rfl _ _ _) rfl ?_
      exact ⟨rfl, x, by unfold WaitTo; rw [HMW.out]; simp, HM0.out.more ⟨rfl, rfl, rfl, Nat.le_refl _, fun _ _ => rfl⟩, LStp.refl ⟨rfl, rfl, rfl, Nat.le_refl _, fun _ _ => rfl⟩⟩
    · have h2b : decide (x.next + (x.win : Int) ≤ q) = false := decide_eq_false h2
      go_enter Try.func38, Try.ntmps38
      go_wp2_with fail
      go_quiet (fail)
      rename_i nq
      have hbq : Below w.heap.size w (w.drewN nq) := ⟨rfl, rfl, rfl, Nat.le_refl _, fun _ _ => rfl⟩
      have HM : Hid (LM L lb cb mb uv x (w.drewN nq)) := HM0.out.more hbq
      have HD : Hid (By (w.drewN nq) (.slice ao s.length c) s) := HD0.out.keep hbq
      have HBQ : Hid (Below w.heap.size w (w.drewN nq)) := hbq
      clear hbq HM0 HD0 c9 c2
      generalize w.drewN nq = X at *
      have c10 : X.cell? ⟨lb, 10, none⟩ = some (.map (some mb)) := HM.out.b.cell 10
      have hlk := HM.out.m.look_ok q true
      have hla := look_any (q := q) x.early
      cases hE : (x.early.any fun p => decide (p.1 = q)) with
      | true =>
        rw [hE] at hla
        have HMW : Hid (mayWait x q = false) := show mayWait x q = false from by unfold mayWait; rw [hE]; simp
        obtain ⟨y, hy⟩ := Option.isSome_iff_exists.1 hla
        have hlk2 : (Instr.lookup 75 (.map (some mb)) (.int .i64 q) true).run Try.prog X = .ok (.tuple #[y, .bool true]) X := by
          have := hlk
          rw [hy] at this
          exact this
        clear hlk hla hE hy
        go_wp2_with fail
        go_end0
        exact ⟨rfl, x, by unfold WaitTo; rw [HMW.out]; simp, HM.out, LStp.refl HBQ.out⟩
      | false =>
        rw [hE] at hla
        have HMW : Hid (mayWait x q = true) := show mayWait x q = true from by unfold mayWait; rw [hE]; simp; omega
        have hy : look q (x.early.map fun p => (p.1, p.2.v)) = none := by simpa using hla
        have HNN : Hid (∀ p ∈ (x.early.map fun p => (p.1, p.2.v)), q ≠ p.1) := fun p hp e => by
          obtain ⟨p0, hp0, rfl⟩ := List.mem_map.1 hp
          rw [List.any_eq_false] at hE
          exact hE p0 hp0 (by simpa using e.symm)
        have hlk2 : (Instr.lookup 75 (.map (some mb)) (.int .i64 q) true).run Try.prog X = .ok (.tuple #[.slice none 0 0, .bool false]) X := by
          have := hlk
          rw [hy] at this
          exact this
        clear hlk hla hE hy
        go_wp2_with fail
        try rw [show ∀ a : Act, a.put none undef = a from fun _ => rfl]
        refine wp_region_mix (fun wz => Below X.heap.size X wz) (fun i => i == 6 || i == 7) 7 (by kernel_rfl) rfl (by kernel_rfl) (by kernel_rfl) (by kernel_rfl) ?_
        refine withFrP (N := 45) rfl ?_
        intro f0 F0 hff
        have e0 : f0 0 = Value.pointer (some ⟨lb, 0, none⟩) := hff 0
        have e1 : f0 1 = Value.int .i64 q := hff 1
        have e2 : f0 2 = Value.slice ao s.length c := hff 2
        clear hff
        have HCC : (fun wz => Below X.heap.size X wz) (({ X with drawn := X.drawn + 1 } : World)) := Below.drew (Below.refl _ _)
        have HCL : Hid _ := clone_any ({ X with drawn := X.drawn + 1 } : World) (HD.out.keep HCC) hsl
        have VM : ∀ wz, Below X.heap.size X wz → wz.cell? ⟨lb, 10, none⟩ = some (.map (some mb)) := fun wz hw => (HM.out.more hw).b.cell 10
        refine lyp F0 rfl HCC rfl (by omega) (wanted_none rfl) (v := Value.pointer (some ⟨lb, 0, none⟩)) (fun wr hwr => by simp only [execOp, (F0.eval 0 (by omega)).trans (show _ = Value.pointer (some ⟨lb, 0, none⟩) from by simp [upd, e0, e1, e2])]; first | rfl | simp [go_sem]) fun Fp1 => ?_
        refine lyp Fp1 rfl HCC rfl (by omega) (wanted_none rfl) (v := Value.pointer (some ⟨lb, 0, none⟩)) (fun wr hwr => by simp only [execOp, (Fp1.eval 38 (by omega)).trans (show _ = Value.pointer (some ⟨lb, 0, none⟩) from by simp [upd, e0, e1, e2])]; simp [go_sem]) fun Fp2 => ?_
        refine lyp Fp2 rfl HCC rfl (by omega) (wanted_none rfl) (v := Value.pointer (some ⟨lb, 10, none⟩)) (fun wr hwr => by simp only [execOp, (Fp2.eval 39 (by omega)).trans (show _ = Value.pointer (some ⟨lb, 0, none⟩) from by simp [upd, e0, e1, e2])]; simp [go_sem]) fun Fp3 => ?_
        refine lyp Fp3 rfl HCC rfl (by omega) (wanted_none rfl) (v := Value.map (some mb)) (fun wr hwr => by simp only [execOp, (Fp3.eval 40 (by omega)).trans (show _ = Value.pointer (some ⟨lb, 10, none⟩) from by simp [upd, e0, e1, e2])]; simp [go_sem, VM _ hwr]) fun Fp4 => ?_
        refine lyp Fp4 rfl HCC rfl (by omega) (wanted_none rfl) (v := Value.int .i64 q) (fun wr hwr => by simp only [execOp, (Fp4.eval 1 (by omega)).trans (show _ = Value.int .i64 q from by simp [upd, e0, e1, e2])]; first | rfl | simp [go_sem]) fun Fp5 => ?_
        refine lyp Fp5 rfl HCC rfl (by omega) (wanted_none rfl) (v := Value.slice ao s.length c) (fun wr hwr => by simp only [execOp, (Fp5.eval 2 (by omega)).trans (show _ = Value.slice ao s.length c from by simp [upd, e0, e1, e2])]; first | rfl | simp [go_sem]) fun Fp6 => ?_
        refine lcp Fp6 rfl HCC rfl (by omega) (wanted_none rfl) (g := 32) (args := #[Value.slice ao s.length c]) (by simp only [execOp, resolve, invoke, List.map_toArray, List.map_cons, List.map_nil, (Fp6.eval 43 (by omega)).trans (show _ = Value.slice ao s.length c from by simp [upd, e0, e1, e2])]; simp [go_sem, Act.eval]) HCL.out ?_
        rintro e w2 ⟨v2, rfl, hr2, hb2⟩
        obtain ⟨co, cc, hv2, _⟩ := own_slice hr2
        subst hv2
        refine ⟨_, rfl, fun Fp7 => ?_⟩
        have HC2 : (fun wz => Below X.heap.size X wz) w2 := HCC.trans hb2
        replace hr2 : w2.ownsRow X.heap.size 5 1 (.slice co s.length cc) s.length (s.map B) := hr2
        have hM2 := HM.out.more HC2
        obtain ⟨w4, hrun, hm4, hc4, hs4⟩ := HMap.put hM2.m q (.slice co s.length cc) HNN.out
        replace hrun : (Instr.mapUpdate 75 (.map (some mb)) (.int .i64 q) (.slice co s.length cc)).run Try.prog w2 = .ok () w4 := hrun
        refine lst rfl HC2 rfl (wanted_none rfl) (w1 := w4) (by simp only [execOp, (Fp7.eval 41 (by omega)).trans (show _ = Value.map (some mb) from by simp [upd, e0, e1, e2]), (Fp7.eval 42 (by omega)).trans (show _ = Value.int .i64 q from by simp [upd, e0, e1, e2]), (Fp7.eval 44 (by omega)).trans (show _ = Value.slice co s.length cc from by simp [upd, e0, e1, e2])]; simp [go_sem, hrun]) ?_
        refine ⟨fun h => by omega, ?_⟩
        clear F0 Fp1 Fp2 Fp3 Fp4 Fp5 Fp6 Fp7 e0 e1 e2 HCC HCL VM
        simp only [Act.put, List.setIfInBounds_toArray, List.set_cons_succ, List.set_cons_zero]
        have hfin := HM.out.wait HC2 hr2 hm4 hc4
        have HF : Hid (LM L lb cb mb uv (x.wait q ⟨.slice co s.length cc, s⟩) w4 ∧ LStp lb cb mb uv uv x (x.wait q ⟨.slice co s.length cc, s⟩) w w4) := ⟨hfin.1, (LStp.refl HBQ.out).trans hfin.2⟩
        clear hfin HC2 hr2 hb2 hrun hm4 hc4 hs4 hM2 c10 hlk2
        try go_wp2_with fail
        go_end0
        exact ⟨rfl, _, by unfold WaitTo; rw [HMW.out, if_pos rfl]; exact ⟨_, rfl⟩, HF.out⟩
end Go.Proofs.Ytcjgicfmfjomgaa
