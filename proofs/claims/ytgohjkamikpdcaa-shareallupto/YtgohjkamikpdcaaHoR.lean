import Derived.Test.YtgohjkamikpdcaaHoI
namespace Go.Proofs.Ytgohjkamikpdcaa
open Go.RowKit Go.PlainAid
set_option linter.unusedVariables false
set_option linter.unusedSimpArgs false
theorem info34 : (Try.prog.info? 34).map (fun i => (i.zero, i.size, i.bytes)) = some (some (.slice none 0 0), 1, 24) := by kernel_rfl
/-- A list that is being held. -/
structure HSR (L kb : Nat) (vI0 vM0 l : Value) (es0 : List Ent) (w : World) (vI vM vR vN far : Value) (e1 e2 r1 r2 : List Ent) (nf : Nat) (m : Int) (wr : World) : Prop where
  ke : KE L kb vI vM vR vN e1 e2 r1 r2 wr
  fr : wr.ownsRow L 38 2 far nf (fullR nf m)
  ap : ∀ g, far.ownBlock = some g → vM.ownBlock ≠ some g ∧ vN.ownBlock ≠ some g
  le : ∀ e ∈ r1, ∀ g, far.ownBlock = some g → e.v.ownBlock = some g → e.n ≤ nf
  chg : Chg (fun k => k = kb ∨ vI0.ownBlock = some k ∨ vM0.ownBlock = some k ∨ l.ownBlock = some k) w wr
  ni : ∀ g, vR.ownBlock = some g → vI0.ownBlock = some g ∨ w.heap.size ≤ g
  nm : ∀ g, vN.ownBlock = some g → vM0.ownBlock = some g ∨ w.heap.size ≤ g
  nl : ∀ g, far.ownBlock = some g → l.ownBlock = some g ∨ w.heap.size ≤ g
  ne : ∀ e ∈ r1, ∀ g, e.v.ownBlock = some g → (∃ e0 ∈ es0, e0.v.ownBlock = some g) ∨ l.ownBlock = some g ∨ w.heap.size ≤ g
  mrk : ∀ e ∈ r1, e ∈ es0 ∨ e.m = m
section
variable {L kb : Nat} {vI0 vM0 l : Value} {es0 : List Ent} {w : World} {vI vM vR vN far far' v' : Value} {e1 e2 r1 r2 : List Ent} {nf : Nat} {m : Int} {wr w2 : World}
theorem HSR.wpI (h : HSR L kb vI0 vM0 l es0 w vI vM vR vN far e1 e2 r1 r2 nf m wr) (hlen : (r1.length + 1) * 24 ≤ 140737488355328) {ops : Array Oper} {rest : List Oper} {o : Oper} {a : Act} {Q : Exit → Act → World → Prop} (hgd : o.guard = none) (s x : Operand)
    (ho : o.op = .call { callee := .builtin .append, args := #[s, x], argTypes := #[42, 42] }) (hs : a.eval s = vR) {g0 : Nat} (hx : a.eval x = .slice (some ⟨g0, 0, none⟩) 1 1) (hg0 : g0 = wr.heap.size)
    (hh : ∀ vo vc w2, w2.frozen? ⟨kb, 4, none⟩ = false → w2.cell? ⟨kb, 4, none⟩ = some vR → Hid (HSR L kb vI0 vM0 l es0 w vI vM (.slice vo (r1.length + 1) vc) vN far e1 e2 (r1 ++ [⟨far, nf, m⟩]) r2 nf m (w2.setCell ⟨kb, 4, none⟩ (.slice vo (r1.length + 1) vc))) → wpList Try.prog ops Q rest (a.put o.dst (.slice vo (r1.length + 1) vc)) w2) : wpList Try.prog ops Q (o :: rest) a (wr.alloc (.cells #[far] 34)) := by
  subst hg0
  have hB : Blk (wr.alloc (.cells #[far] 34)) wr.heap.size #[far] 34 := heap_alloc_new wr _
  obtain ⟨fo, fc, hff, _⟩ := own_slice h.fr
  have hlw : L ≤ wr.heap.size := Nat.le_trans h.ke.lk (Nat.le_of_lt h.ke.blk.lt)
  refine wpList_app 42 34 (.slice none 0 0) 1 24 Try.underlying42 info34 rfl (by decide) (by decide) hgd s x ho L r1.length vR (r1.map Ent.v) hs (h.ke.yi.alloc _) ⟨wr.heap.size, 0, none⟩ 1 1 [far] hx rfl (fun j u hu => ?_) (fun u hu => by rw [List.mem_singleton.1 hu, hff]; rfl) hlen (by rw [World.size_alloc]; omega) ?_
  · rw [addr_add, Nat.zero_add, hB.cell j]
    match j with
    | 0 => simpa using hu
    | j + 1 => simp at hu
  · intro v2 w2 h1 h2 _
    obtain ⟨vo, vc, rfl, _⟩ := own_slice h1
    obtain ⟨k1, k2, k3, k4⟩ := h.ke.addR ⟨far, nf, m⟩ h.fr h.ap (by rw [List.map_append]; exact h1) h2.ofAlloc
    have hg := h2.ofAlloc
    refine hh vo vc w2 k2 k3 ⟨k1, ?_, h.ap, ?_, ?_, ?_, h.nm, h.nl, ?_, fun e he => by rcases List.mem_append.1 he with q | q; exact h.mrk e q; rw [List.mem_singleton.1 q]; exact .inr rfl⟩
    · refine ownsRow_same h.fr (fun g e => k4.block g (ownsRow_lt h.fr e).2 (fun hb => ?_))
      rcases hb with hb | hb
      · exact kb_ne h.fr h.ke.blk (by decide) g e hb
      · exact ty_ne h.fr h.ke.yi (by decide) g e hb
    · intro e he g q1 q2
      rcases List.mem_append.1 he with q | q
      · exact h.le e q g q1 q2
      · rw [List.mem_singleton.1 q]; exact Nat.le_refl _
    · refine h.chg.trans k4 (fun j hj hb => ?_)
      rcases hb with hb | hb
      · exact .inl hb
      · rcases h.ni j hb with q | q
        · exact .inr (.inl q)
        · omega
    · intro g e
      rcases hg.at' g e with q | q
      · exact h.ni g q
      · exact .inr (Nat.le_trans h.chg.size q)
    · intro e he g q1
      rcases List.mem_append.1 he with q | q
      · exact h.ne e q g q1
      · rw [List.mem_singleton.1 q] at q1
        exact .inr (h.nl g q1)
theorem HSR.wpM (h : HSR L kb vI0 vM0 l es0 w vI vM vR vN far e1 e2 r1 r2 nf m wr) (hlen : (r2.length + 1) * 24 ≤ 140737488355328) {ops : Array Oper} {rest : List Oper} {o : Oper} {a : Act} {Q : Exit → Act → World → Prop} (hgd : o.guard = none) (s x : Operand)
    (ho : o.op = .call { callee := .builtin .append, args := #[s, x], argTypes := #[22, 22] }) (hs : a.eval s = vN) {g0 : Nat} (hx : a.eval x = .slice (some ⟨g0, 0, none⟩) 1 1) (hg0 : g0 = wr.heap.size)
    (hh : ∀ vo vc w2, w2.frozen? ⟨kb, 6, none⟩ = false → w2.cell? ⟨kb, 6, none⟩ = some vN → Hid (HSR L kb vI0 vM0 l es0 w vI vM vR (.slice vo (r2.length + 1) vc) far e1 e2 r1 (r2 ++ [⟨far, nf, m⟩]) nf m (w2.setCell ⟨kb, 6, none⟩ (.slice vo (r2.length + 1) vc))) → wpList Try.prog ops Q rest (a.put o.dst (.slice vo (r2.length + 1) vc)) w2) : wpList Try.prog ops Q (o :: rest) a (wr.alloc (.cells #[.int .i64 m] 3)) := by
  subst hg0
  have hlw : L ≤ wr.heap.size := Nat.le_trans h.ke.lk (Nat.le_of_lt h.ke.blk.lt)
  refine wpList_appI hgd s x ho L r2.length vN (r2.map Ent.m) hs h.ke.ym m hx rfl (by omega) hlw ?_
  intro v2 w2 h1 h2 _
  obtain ⟨vo, vc, rfl, _⟩ := own_slice h1
  obtain ⟨k1, k2, k3, k4⟩ := h.ke.markR ⟨far, nf, m⟩ h1 h2
  refine hh vo vc w2 k2 k3 ⟨k1, ?_, ?_, h.le, ?_, h.ni, ?_, h.nl, h.ne, h.mrk⟩
  · refine ownsRow_same h.fr (fun g e => k4.block g (ownsRow_lt h.fr e).2 (fun hb => ?_))
    rcases hb with hb | hb
    · exact kb_ne h.fr h.ke.blk (by decide) g e hb
    · exact (h.ap g e).2 hb
  · intro g e
    have hf := (ownsRow_lt h.fr e).2
    exact ⟨(h.ap g e).1, fun e2 => by rcases h2.at' g e2 with q | q; exact (h.ap g e).2 q; omega⟩
  · refine h.chg.trans k4 (fun j hj hb => ?_)
    rcases hb with hb | hb
    · exact .inl hb
    · rcases h.nm j hb with q | q
      · exact .inr (.inr (.inl q))
      · omega
  · intro g e
    rcases h2.at' g e with q | q
    · exact h.nm g q
    · exact .inr (Nat.le_trans h.chg.size q)
theorem HSR.grow (h : HSR L kb vI0 vM0 l es0 w vI vM vR vN far e1 e2 r1 r2 nf m wr) (h1 : w2.ownsRow L 38 2 far' (nf + 1) (fullR (nf + 1) m)) (h2 : Grew wr w2 far far') (h3 : ∀ (d : Value) (n base' : Nat) (zs : List Value), n ≤ nf → d.ownBlock = far.ownBlock → wr.ownsRow base' 38 2 d n zs → w2.ownsRow base' 38 2 d n zs) :
    HSR L kb vI0 vM0 l es0 w vI vM vR vN far' e1 e2 r1 r2 (nf + 1) m w2 := by
  obtain ⟨k1, k2, k3⟩ := h.ke.farR h.fr h.ap h.le h2 h3
  refine ⟨k1, h1, k2, k3, h.chg.trans h2.chg (fun j hj hb => ?_), h.ni, h.nm, fun g e => ?_, h.ne, h.mrk⟩
  · rcases h.nl j hb with q | q
    · exact .inr (.inr (.inr q))
    · omega
  · rcases h2.at' g e with q | q
    · exact h.nl g q
    · exact .inr (Nat.le_trans h.chg.size q)
theorem fullR_succ (n : Nat) (m : Int) : fullR (n + 1) m = fullR n m ++ [I (-1000 - m), I 0] := by unfold fullR; rw [List.replicate_succ', flatR_append]; rfl
theorem HSR.wpF (h : HSR L kb vI0 vM0 l es0 w vI vM vR vN far e1 e2 r1 r2 nf m wr) (hlen : (nf + 1) * 16 ≤ 140737488355328) {ops : Array Oper} {rest : List Oper} {o : Oper} {a : Act} {Q : Exit → Act → World → Prop} (hgd : o.guard = none) (s x : Operand)
    (ho : o.op = .call { callee := .builtin .append, args := #[s, x], argTypes := #[34, 34] }) (hs : a.eval s = far) {g0 : Nat} (hx : a.eval x = .slice (some ⟨g0, 0, none⟩) 1 1) (hg0 : g0 = wr.heap.size)
    (hh : ∀ vo vc w2, Hid (HSR L kb vI0 vM0 l es0 w vI vM vR vN (.slice vo (nf + 1) vc) e1 e2 r1 r2 (nf + 1) m w2) → wpList Try.prog ops Q rest (a.put o.dst (.slice vo (nf + 1) vc)) w2) : wpList Try.prog ops Q (o :: rest) a (wr.alloc (.cells #[.int .i64 (-1000 - m), .int .i64 0] 38)) := by
  subst hg0
  have hlw : L ≤ wr.heap.size := Nat.le_trans h.ke.lk (Nat.le_of_lt h.ke.blk.lt)
  obtain ⟨vo, vc, w2, hr, h1, h2, h3⟩ := appR (ps := List.replicate nf (-1000 - m, 0)) h.fr hlw hlen (-1000 - m) 0 o.type
  refine wpList_plain hgd fun K hK => ?_
  unfold Oper.wp execOp
  simp only [ho, resolve, invoke, builtin, Sem.run_bind, Sem.run_pure, Result.andThen_ok, List.map_toArray, List.map_cons, List.map_nil, hs, hx, hr]
  refine hK _ _ (hh vo vc w2 (h.grow ?_ h2 h3))
  rw [flatR_append] at h1
  rw [fullR_succ]
  exact h1

end
set_option maxRecDepth 100000 in
set_option maxHeartbeats 3200000 in
/-- A list that is full of its mark is held, and grown. -/
theorem holdR_any {L kb n : Nat} {vI vM vR vN l : Value} {e1 r1 : List Ent} {m : Int} (w : World) (hK : KE L kb vI vM vR vN e1 e1 r1 r1 w) (hl : w.ownsRow L 38 2 l n (fullR n m)) (hap : ∀ g, l.ownBlock = some g → vM.ownBlock ≠ some g ∧ vN.ownBlock ≠ some g) (hne : ∀ e ∈ r1, ∀ g, l.ownBlock = some g → e.v.ownBlock ≠ some g)
    (hn : n ≤ 1000) (hm0 : 0 ≤ m) (hm1 : m ≤ 1000000000000000) (hel : r1.length ≤ 1000000000000) :
    Calls Try.prog 43 #[.pointer (some ⟨kb, 0, none⟩), l, .int .i64 m] w fun r w' => r = .returned (.tuple #[]) ∧ ∃ v1 v2 far es, HSR L kb vR vN l r1 w vI vM v1 v2 far e1 e1 es es (n + 40) m w' ∧ es.length ≤ r1.length + 18 ∧ r1.length < es.length := by
  have hH : HSR L kb vR vN l r1 w vI vM vR vN l e1 e1 r1 r1 n m w := ⟨hK, hl, hap, fun e he g q1 q2 => absurd q2 (hne e he g q1), Chg.refl _ _, fun g e => .inl e, fun g e => .inl e, fun g e => .inl e, fun e he g q => .inl ⟨e, he, q⟩, fun e he => .inl he⟩
  obtain ⟨lo, lc, hll, _⟩ := own_slice hl
  obtain ⟨io, ic, hii, _⟩ := own_slice hK.yi
  obtain ⟨mo, mc, hmm, _⟩ := own_slice hK.ym
  subst hll hii hmm
  have c1 : w.cell? ⟨kb, 4, none⟩ = some (.slice io r1.length ic) := hK.blk.cell 4
  have HH : Hid _ := hH
  have hwm : IntKind.i64.wrap (-1000 - m) = -1000 - m := by rw [IntKind.wrap_i64]; omega
  clear hK hl hap hne hH
  go_enter Try.func43, Try.ntmps43
  go_wp2_with (first
    | (at_builtin; go_must (refine HSR.wpI HH.out (by first | omega | (simp; omega)) rfl _ _ rfl rfl rfl (by first | rfl | simp) ?_))
    | fail)
  intro vo1 vc1 w1 f1 c1' H1
  have cm := H1.out.ke.blk.cell 6
  replace cm : (w1.setCell ⟨kb, 4, none⟩ (.slice vo1 (r1.length + 1) vc1)).cell? ⟨kb, 6, none⟩ = some (.slice mo r1.length mc) := cm
  clear HH c1
  go_wp2_with (first
    | (at_builtin; go_must (refine HSR.wpM H1.out (by first | omega | (simp; omega)) rfl _ _ rfl rfl rfl (by first | rfl | simp) ?_))
    | fail)
  intro vo2 vc2 w2 f2 c2' H2
  clear H1 cm f1 c1'
  go_wp2
  go_loopw [6, 7] (fun fv i wr => ∃ (k : Nat) (v1 v2 : Value) (es : List Ent), k ≤ 40 ∧ i = .int .i64 k ∧ es.length ≤ r1.length + 1 + k ∧ (17 ≤ k → k < 40 → es.length ≤ r1.length + 17) ∧ (k = 40 → es.length ≤ r1.length + 18) ∧ r1.length < es.length ∧ Hid (HSR L kb (.slice io r1.length ic) (.slice mo r1.length mc) (.slice lo n lc) r1 w vI vM v1 v2 fv e1 e1 es es (n + k) m wr)) (fun _ i _ => 40 - (intOf i).toNat)
  case atStart => exact ⟨0, _, _, _, Nat.zero_le _, rfl, by simp, by omega, by omega, by simp, H2⟩
  case round =>
    clear H2 f2 c2'
    obtain ⟨k, v1, v2, es, hk, rfl, hel1, hel2, hel3, hel4, HH⟩ := hrel
    have hH := HH.out
    obtain ⟨fo, fc, hff, _⟩ := own_slice hH.fr
    obtain ⟨jo, jc, hjj, _⟩ := own_slice hH.ke.yi
    obtain ⟨no, nc, hnn, _⟩ := own_slice hH.ke.ym
    subst hff hjj hnn
    by_cases hlt : k < 40
    · have hlti : (k : Int) < 40 := by omega
      clear hH
      go_wp2_with (first
        | (at_builtin; go_must (refine HSR.wpF HH.out (by first | omega | (simp; omega)) rfl _ _ rfl rfl rfl (by first | rfl | simp) ?_))
        | fail)
      intro vf cf w0 HF
      clear HH
      have c1 : w0.cell? ⟨kb, 4, none⟩ = some (.slice jo es.length jc) := HF.out.ke.blk.cell 4
      by_cases h16 : k < 16
      · have h16i : (k : Int) < 16 := by omega
        have HH : Hid _ := HF
        clear HF
        go_wp2_with (first
          | (at_builtin; go_must (refine HSR.wpI HH.out (by first | omega | (simp; omega)) rfl _ _ rfl rfl rfl (by first | rfl | simp) ?_))
          | fail)
        intro vo1 vc1 w1 f1 c1' H1
        have cm := H1.out.ke.blk.cell 6
        replace cm : (w1.setCell ⟨kb, 4, none⟩ (.slice vo1 (es.length + 1) vc1)).cell? ⟨kb, 6, none⟩ = some (.slice no es.length nc) := cm
        clear HH c1
        go_wp2_with (first
          | (at_builtin; go_must (refine HSR.wpM H1.out (by first | omega | (simp; omega)) rfl _ _ rfl rfl rfl (by first | rfl | simp) ?_))
          | fail)
        intro vo2 vc2 w2 f2 c2' H2
        clear H1 cm f1 c1'
        go_wp2
        go_roundw
        case rel => exact ⟨k + 1, _, _, _, by omega, by go_num, by simp; omega, by simp; omega, by simp; omega, by simp; omega, H2⟩
        case measure => simp [intOf]; omega
      · have h16i : ¬ (k : Int) < 16 := by omega
        by_cases h39 : k = 39
        · subst h39
          have HH : Hid _ := HF
          clear HF
          go_wp2_with (first
            | (at_builtin; go_must (refine HSR.wpI HH.out (by first | omega | (simp; omega)) rfl _ _ rfl rfl rfl (by first | rfl | simp) ?_))
            | fail)
          intro vo1 vc1 w1 f1 c1' H1
          have cm := H1.out.ke.blk.cell 6
          replace cm : (w1.setCell ⟨kb, 4, none⟩ (.slice vo1 (es.length + 1) vc1)).cell? ⟨kb, 6, none⟩ = some (.slice no es.length nc) := cm
          clear HH c1
          go_wp2_with (first
            | (at_builtin; go_must (refine HSR.wpM H1.out (by first | omega | (simp; omega)) rfl _ _ rfl rfl rfl (by first | rfl | simp) ?_))
            | fail)
          intro vo2 vc2 w2 f2 c2' H2
          clear H1 cm f1 c1'
          go_wp2
          go_roundw
          case rel => exact ⟨40, _, _, _, by omega, by go_num, by simp; omega, by simp, by simp; omega, by simp; omega, H2⟩
          case measure => simp [intOf]
        · have h39i : ((k : Int) == 39) = false := by simpa using (by omega : (k : Int) ≠ 39)
          clear c1
          go_wp2
          go_roundw
          case rel => exact ⟨k + 1, _, _, es, by omega, by go_num, by omega, by omega, by omega, hel4, HF⟩
          case measure => simp [intOf]; omega
    · obtain rfl : k = 40 := by omega
      clear hH
      go_wp2
      go_end0
      exact ⟨rfl, _, _, _, es, HH.out, by simpa using hel3, hel4⟩
end Go.Proofs.Ytgohjkamikpdcaa
