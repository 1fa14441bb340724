import Derived.Test.YtcjgicfmfjomgaaHu0
namespace Go.Proofs.Ytcjgicfmfjomgaa
open Go.RowKit Go.PlainAid Go.MapKept
set_option linter.unusedVariables false
set_option linter.unusedSimpArgs false
theorem HU.step {L lb cb mb : Nat} {uv : Value} {x : LV} {w : World} {vd : Value} {ds : List Dv} {n : Int} {E : List (Int × Dv)} {X w6 : World} {d : Dv} (h : HU L lb cb mb uv x w vd ds n E X) (hd : atD n E = some d) (hl : ds.length ≤ 1000) (hm : HMap MB w6 mb (rmK n (E.map fun p => (p.1, p.2.v)))) (hc : Chg (fun k => k = mb) X w6) :
    w6.cell? ⟨lb, 9, none⟩ = some (.int .i64 n) ∧ w6.frozen? ⟨lb, 9, none⟩ = false ∧ ∃ v8 w8, (∀ ty, (Builtin.append_ #[36, 36] ty #[vd, .slice (some ⟨(w6.setCell ⟨lb, 9, none⟩ (.int .i64 (n + 1))).heap.size, 0, none⟩) 1 1]).run Try.prog ((w6.setCell ⟨lb, 9, none⟩ (.int .i64 (n + 1))).alloc (.cells #[d.v] 41)) = .ok v8 w8) ∧ HU L lb cb mb uv x w v8 (ds ++ [d]) (n + 1) (rmD n E) w8 := by
  obtain ⟨hp1, hp2⟩ := rm_perm hd
  have hdm : d ∈ (x.at_ n E).all := by
    unfold LV.all
    have : d ∈ (x.at_ n E).early.map Prod.snd := hp1.mem_iff.2 (by simp)
    simp only [List.mem_append]
    exact Or.inr this
  have hall : (x.at_ n E).all.Perm (d :: (x.at_ (n + 1) (rmD n E)).all) := by
    unfold LV.all LV.at_
    simp only
    refine (List.Perm.append (List.Perm.refl _) hp1).trans ?_
    exact List.perm_middle
  obtain ⟨dao, dc, hdv, _⟩ := own_slice (h.lm.dt d hdm)
  have hone : d.v.oneCell' = true := by rw [hdv]; rfl
  obtain ⟨s0, r0, hcc⟩ := h.lm.c
  have hty : ∀ {t z k M : Nat} {u : Value} {xs : List Value}, X.ownsRow M t z u k xs → w6.ownsRow M t z u k xs := fun hu => ownsRow_same hu (fun g e => hc.block g (ownsRow_lt hu e).2 (fun e2 => by
    obtain ⟨cur, hcur⟩ := ownsRow_type hu e
    exact h.lm.m.ne_b hcur e2))
  have hB6 : Blk w6 lb (lbox (x.at_ n E) cb mb uv) 77 := hc.blk h.lm.b (fun e => h.lm.m.ne_b h.lm.b e)
  have hcs := setCell_chg w6 lb 9 (.int .i64 (n + 1))
  have hB7 : Blk (w6.setCell ⟨lb, 9, none⟩ (.int .i64 (n + 1))) lb (lbox (x.at_ (n + 1) (rmD n E)) cb mb uv) 77 := hB6.set 9 _
  have hne := h.lm.ne_lb
  have hty7 : ∀ {t z k M : Nat} {u : Value} {xs : List Value}, X.ownsRow M t z u k xs → t ≠ 77 → (w6.setCell ⟨lb, 9, none⟩ (.int .i64 (n + 1))).ownsRow M t z u k xs := fun hu ht => ownsRow_same (hty hu) (fun g e => hcs.block g (ownsRow_lt (hty hu) e).2 (fun e2 => by
    obtain ⟨cur, hcur⟩ := ownsRow_type (hty hu) e
    exact Blk.ne_t hcur hB6 ht e2))
  have hsz6 := hc.size
  have hs7 : (w6.setCell ⟨lb, 9, none⟩ (.int .i64 (n + 1))).heap.size = w6.heap.size := by simp [World.setCell]
  have hwX := h.ch.size
  obtain ⟨v8, w8, hr8, ho8, hg8⟩ := app_dv d hone (hty7 h.r (by decide)) (by rw [hs7]; omega) (by omega)
  have hlow : ∀ k, lown lb cb mb uv (x.at_ n E) k → k < w.heap.size := fun k hk => by
    refine h.lt0 k ?_
    rcases hk with q | q | q | q | ⟨e, he, q⟩
    · exact .inl q
    · exact .inr (.inl q)
    · exact .inr (.inr (.inl q))
    · exact .inr (.inr (.inr (.inl q)))
    · exact .inr (.inr (.inr (.inr ⟨e, h.pm.mem_iff.1 (List.mem_append.2 (Or.inr he)), q⟩)))
  have hvg : ∀ k, vd.ownBlock = some k → w.heap.size ≤ k := fun k e => (ownsRow_lt h.r e).1
  have st8 : ∀ {t z k M : Nat} {u : Value} {xs : List Value}, X.ownsRow M t z u k xs → t ≠ 77 → (∀ g, u.ownBlock = some g → vd.ownBlock ≠ some g) → w8.ownsRow M t z u k xs := fun hu ht hd => ownsRow_same (hty7 hu ht) (fun g e => hg8.chg.block g (ownsRow_lt (hty7 hu ht) e).2 (hd g e))
  have hdt : ∀ e ∈ (x.at_ n E).all, w8.ownsRow L 5 1 e.v e.s.length (e.s.map B) := fun e he => st8 (h.lm.dt e he) (by decide) (fun g e1 e2 => by
    have h1 := hlow g (.inr (.inr (.inr (.inr ⟨e, he, e1⟩))))
    have h2 := hvg g e2
    omega)
  refine ⟨hB6.cell 9, hB6.frozen 9, v8, w8, hr8, ⟨⟨?_, ⟨s0, r0, ?_⟩, ?_, ?_, fun e he => hdt e (hall.mem_iff.2 (List.mem_cons_of_mem _ he)), ?_, h.lm.lo⟩, ?_, ?_, fun e he => ?_, ?_, ?_, ?_, ?_, h.lt0⟩⟩
  · exact hg8.chg.blk hB7 (fun e => by
      have h1 := hlow lb (.inl rfl)
      have h2 := hvg lb e
      omega)
  · refine (hg8.chg.block cb (by rw [hs7]; exact Nat.lt_of_lt_of_le h.lm.clt hsz6) (fun e => by
      have h1 := hlow cb (.inr (.inl rfl))
      have h2 := hvg cb e
      omega)).trans ((hcs.block cb (Nat.lt_of_lt_of_le h.lm.clt hsz6) hne.1).trans ((hc.block cb h.lm.clt (fun e => ?_)).trans hcc))
    obtain ⟨es, cl, hm1, _⟩ := h.lm.m
    rw [e] at hcc
    have := hm1.symm.trans hcc
    cases this
  · exact st8 h.lm.u (by decide) (fun g e1 e2 => by
      have h1 := hlow g (.inr (.inr (.inr (.inl e1))))
      have h2 := hvg g e2
      omega)
  · rw [rm_map] at hm
    have hml : mb < w6.heap.size := Nat.lt_of_lt_of_le h.lm.m.lt hsz6
    refine hm.same ((hg8.chg.block mb (by rw [hs7]; exact hml) (fun e => by
      have h1 := hlow mb (.inr (.inr (.inl rfl)))
      have h2 := hvg mb e
      omega)).trans (hcs.block mb hml hne.2.1))
  · have hq := (List.Perm.pairwise_iff (fun {a b} hab g h1 h2 => hab g h2 h1) hall).1 h.lm.dj
    exact (List.pairwise_cons.1 hq).2
  · rw [h.hd]
    have e1 : E.length = (rmD n E).length + 1 := hp2
    rw [e1]
    simp only [handed, hd, List.append_assoc, List.singleton_append]
  · exact ho8
  · rcases List.mem_append.1 he with q | q
    · exact st8 (h.dt e q) (by decide) (fun g e1 e2 => by
        have h1 := h.lt0 g (.inr (.inr (.inr (.inr ⟨e, h.pm.mem_iff.1 (List.mem_append.2 (Or.inl q)), e1⟩))))
        have h2 := hvg g e2
        omega)
    · rw [List.mem_singleton.1 q]
      exact hdt d hdm
  · rw [List.append_assoc]
    exact (List.Perm.append (List.Perm.refl ds) hall.symm).trans h.pm
  · rw [List.append_assoc]
    exact (List.Perm.pairwise_iff (fun {a b} hab g h1 h2 => hab g h2 h1) (List.Perm.append (List.Perm.refl ds) hall.symm)).2 h.pw
  · have a1 := h.ch.trans (hc.mono (B := lown lb cb mb uv x) (fun j _ e => .inr (.inr (.inl e)))) (fun _ _ e => e)
    have a2 := a1.trans (hcs.mono (B := lown lb cb mb uv x) (fun j _ e => .inl e)) (fun _ _ e => e)
    exact a2.trans hg8.chg (fun k hk e => by
      have := hvg k e
      omega)
  · rw [h.nn, List.length_append]
    simp
    omega
def earlyLen (mb : Nat) (w : World) : Nat := match w.heap[mb]? with
  | some (.map es _) => es.size
  | _ => 0
theorem earlyLen_is {w : World} {mb : Nat} {E : List (Int × Dv)} (h : HMap MB w mb (E.map fun p => (p.1, p.2.v))) : earlyLen mb w = E.length := by
  obtain ⟨es, c, h1, _, h3⟩ := h
  unfold earlyLen
  rw [h1]
  have := congrArg List.length h3
  simpa using this
set_option maxRecDepth 100000 in
set_option maxHeartbeats 6400000 in
theorem handUp_any {L lb cb mb : Nat} {uv : Value} {x : LV} (w : World) (h : LM L lb cb mb uv x w) (hn : 1 ≤ x.next ∧ x.next ≤ 1099511627777) (he : x.early.length ≤ 500) :
    Calls Try.prog 39 #[.pointer (some ⟨lb, 0, none⟩)] w fun e w' => ∃ v ds n E, e = .returned v ∧ HU L lb cb mb uv x w v ds n E w' ∧ handed x.early.length x.next x.early = (ds, n, E) := by
  have HU0 : Hid (HU L lb cb mb uv x w (.slice none 0 0) [] x.next x.early w) := ⟨h, rfl, World.ownsRow_nil _ _ _ _, (fun d hd => by cases hd), List.Perm.refl _, h.dj, Chg.refl _ _, by simp, fun k hk => (h.lt hk).2⟩
  obtain ⟨hn1, hn2⟩ := hn
  clear h
  go_enter Try.func39, Try.ntmps39
  go_wp2_with fail
  go_loopw [3, 4, 5] (fun s3 _ _ wr => ∃ vd, vd = s3 ∧ ∃ ds n E, HU L lb cb mb uv x w vd ds n E wr ∧ ds.length + E.length = x.early.length) (fun _ _ _ wr => earlyLen mb wr)
  case atStart => exact ⟨_, rfl, [], _, _, HU0.out, by simp⟩
  case round =>
    clear HU0
    obtain ⟨vd, rfl, ds, nx, E, hS, hlen⟩ := hrel
    have HS : Hid _ := hS
    have hnx : nx = x.next + (ds.length : Int) := hS.nn
    have hnx1 : 1 ≤ nx ∧ nx ≤ 1099511627777 + 500 := by omega
    have hlk := fun wz (hw : Below wr.heap.size wr wz) => ((hS.lm.more hw).m.look_ok nx true)
    have HEL : Hid (earlyLen mb wr = E.length) := show earlyLen mb wr = E.length from earlyLen_is hS.lm.m
    clear hS hnx
    obtain ⟨hx1, hx2⟩ := hnx1
    cases hA : atD nx E with
    | some d =>
      obtain ⟨hp1, hp2⟩ := rm_perm hA
      have hdm : d ∈ (x.at_ nx E).all := by
        unfold LV.all
        have : d ∈ (x.at_ nx E).early.map Prod.snd := hp1.mem_iff.2 (by simp)
        simp only [List.mem_append]
        exact Or.inr this
      obtain ⟨dao, dc, hdv, _⟩ := own_slice (HS.out.lm.dt d hdm)
      obtain ⟨dn, hdn⟩ : ∃ dn, dn = d.s.length := ⟨_, rfl⟩
      rw [← hdn] at hdv
      have VLK : ∀ wz, Below wr.heap.size wr wz → (Instr.lookup 75 (.map (some mb)) (.int .i64 nx) true).run Try.prog wz = .ok (.tuple #[.slice dao dn dc, .bool true]) wz := fun wz hw => by
        have := hlk wz hw
        rw [show (x.at_ nx E).early = E from rfl, look_map, hA, Option.map_some, hdv] at this
        exact this
      have HA : Hid (atD nx E = some d) := hA
      have HDV : Hid (d.v = .slice dao dn dc) := hdv
      have HP2 : Hid (E.length = (rmD nx E).length + 1) := hp2
      have HLEN : Hid (ds.length + E.length = x.early.length) := hlen
      have hdsl : ds.length ≤ 1000 := by omega
      obtain ⟨vo, vc, hvd, _⟩ := own_slice HS.out.r
      obtain ⟨vn, hvn⟩ : ∃ vn, vn = ds.length := ⟨_, rfl⟩
      rw [← hvn] at hvd
      clear hlk hA hp1 hp2 hdm hdn hdv hlen hvn
      subst hvd
      go_wp2_with fail
      rename_i K hK
      try rw [show ∀ a : Act, a.put none undef = a from fun _ => rfl]
      refine wp_region_mix (fun wz => Below wr.heap.size wr wz) (fun i => i == 99) 99 (by kernel_rfl) rfl (by kernel_rfl) (by kernel_rfl) (by kernel_rfl) ?_
      refine withFrP (N := 40) rfl ?_
      intro f0 F0 hff
      have e0 : f0 0 = Value.pointer (some ⟨lb, 0, none⟩) := hff 0
      clear hff
      have HCC : (fun wz => Below wr.heap.size wr wz) (({ wr with drawn := wr.drawn + 1 } : World)) := Below.drew (Below.refl _ _)
      have VM : ∀ wz, Below wr.heap.size wr wz → wz.cell? ⟨lb, 10, none⟩ = some (.map (some mb)) := fun wz hw => (HS.out.lm.more hw).b.cell 10
      have VN : ∀ wz, Below wr.heap.size wr wz → wz.cell? ⟨lb, 9, none⟩ = some (.int .i64 nx) := fun wz hw => (HS.out.lm.more hw).b.cell 9
      refine lyp F0 rfl HCC rfl (by omega) (wanted_none rfl) (v := Value.pointer (some ⟨lb, 0, none⟩)) (fun wr hwr => by simp only [execOp, (F0.eval 0 (by omega)).trans (show _ = Value.pointer (some ⟨lb, 0, none⟩) from by simp [upd, e0])]; first | rfl | simp [go_sem]) fun Fp1 => ?_
      refine lyp Fp1 rfl HCC rfl (by omega) (wanted_none rfl) (v := Value.pointer (some ⟨lb, 0, none⟩)) (fun wr hwr => by simp only [execOp, (Fp1.eval 7 (by omega)).trans (show _ = Value.pointer (some ⟨lb, 0, none⟩) from by simp [upd, e0])]; simp [go_sem]) fun Fp2 => ?_
      refine lyp Fp2 rfl HCC rfl (by omega) (wanted_none rfl) (v := Value.pointer (some ⟨lb, 10, none⟩)) (fun wr hwr => by simp only [execOp, (Fp2.eval 8 (by omega)).trans (show _ = Value.pointer (some ⟨lb, 0, none⟩) from by simp [upd, e0])]; simp [go_sem]) fun Fp3 => ?_
      refine lyp Fp3 rfl HCC rfl (by omega) (wanted_none rfl) (v := Value.map (some mb)) (fun wr hwr => by simp only [execOp, (Fp3.eval 9 (by omega)).trans (show _ = Value.pointer (some ⟨lb, 10, none⟩) from by simp [upd, e0])]; simp [go_sem, VM _ hwr]) fun Fp4 => ?_
      refine lyp Fp4 rfl HCC rfl (by omega) (wanted_none rfl) (v := Value.pointer (some ⟨lb, 0, none⟩)) (fun wr hwr => by simp only [execOp, (Fp4.eval 0 (by omega)).trans (show _ = Value.pointer (some ⟨lb, 0, none⟩) from by simp [upd, e0])]; first | rfl | simp [go_sem]) fun Fp5 => ?_
      refine lyp Fp5 rfl HCC rfl (by omega) (wanted_none rfl) (v := Value.pointer (some ⟨lb, 0, none⟩)) (fun wr hwr => by simp only [execOp, (Fp5.eval 11 (by omega)).trans (show _ = Value.pointer (some ⟨lb, 0, none⟩) from by simp [upd, e0])]; simp [go_sem]) fun Fp6 => ?_
      refine lyp Fp6 rfl HCC rfl (by omega) (wanted_none rfl) (v := Value.pointer (some ⟨lb, 9, none⟩)) (fun wr hwr => by simp only [execOp, (Fp6.eval 12 (by omega)).trans (show _ = Value.pointer (some ⟨lb, 0, none⟩) from by simp [upd, e0])]; simp [go_sem]) fun Fp7 => ?_
      refine lyp Fp7 rfl HCC rfl (by omega) (wanted_none rfl) (v := Value.int .i64 nx) (fun wr hwr => by simp only [execOp, (Fp7.eval 13 (by omega)).trans (show _ = Value.pointer (some ⟨lb, 9, none⟩) from by simp [upd, e0])]; simp [go_sem, VN _ hwr]) fun Fp8 => ?_
      refine lyp Fp8 rfl HCC rfl (by omega) (wanted_none rfl) (v := Value.tuple #[Value.slice dao dn dc, Value.bool true]) (fun wr hwr => by simp only [execOp, (Fp8.eval 10 (by omega)).trans (show _ = Value.map (some mb) from by simp [upd, e0]), (Fp8.eval 14 (by omega)).trans (show _ = Value.int .i64 nx from by simp [upd, e0])]; simp only [Sem.run_bind, Sem.run_pure, Result.andThen_ok, VLK _ hwr]; try rfl) fun Fp9 => ?_
      refine lyp Fp9 rfl HCC rfl (by omega) (wanted_none rfl) (v := Value.tuple #[Value.slice dao dn dc, Value.bool true]) (fun wr hwr => by simp only [execOp, (Fp9.eval 15 (by omega)).trans (show _ = Value.tuple #[Value.slice dao dn dc, Value.bool true] from by simp [upd, e0])]; first | rfl | simp [go_sem]) fun Fp10 => ?_
      refine lyp Fp10 rfl HCC rfl (by omega) (wanted_none rfl) (v := Value.slice dao dn dc) (fun wr hwr => by simp only [execOp, (Fp10.eval 6 (by omega)).trans (show _ = Value.tuple #[Value.slice dao dn dc, Value.bool true] from by simp [upd, e0])]; simp [go_sem]) fun Fp11 => ?_
      refine lyp Fp11 rfl HCC rfl (by omega) (wanted_none rfl) (v := Value.bool true) (fun wr hwr => by simp only [execOp, (Fp11.eval 6 (by omega)).trans (show _ = Value.tuple #[Value.slice dao dn dc, Value.bool true] from by simp [upd, e0])]; simp [go_sem]) fun Fp12 => ?_
      refine lyp Fp12 rfl HCC rfl (by omega) (wanted_none rfl) (v := Value.slice dao dn dc) (fun wr hwr => by simp only [execOp, (Fp12.eval 16 (by omega)).trans (show _ = Value.slice dao dn dc from by simp [upd, e0])]; first | rfl | simp [go_sem]) fun Fp13 => ?_
      refine lyp Fp13 rfl HCC rfl (by omega) (wanted_none rfl) (v := Value.bool true) (fun wr hwr => by simp only [execOp, (Fp13.eval 17 (by omega)).trans (show _ = Value.bool true from by simp [upd, e0])]; first | rfl | simp [go_sem]) fun Fp14 => ?_
      refine ⟨fun _ => HCC, ?_⟩
      refine hK _ _ ?_
      clear F0 Fp1 Fp2 Fp3 Fp4 Fp5 Fp6 Fp7 Fp8 Fp9 Fp10 Fp11 Fp12 Fp13 Fp14 e0 VM VN
      simp only [Act.put, List.setIfInBounds_toArray, List.set_cons_succ, List.set_cons_zero]
      have HSX : Hid (HU L lb cb mb uv x w (.slice vo vn vc) ds nx E ({ wr with drawn := wr.drawn + 1 } : World)) := HS.out.more HCC
      clear HCC VLK HS
      generalize ({ wr with drawn := wr.drawn + 1 } : World) = X at *
      go_wp2_with fail
      rename_i K hK
      try rw [show ∀ a : Act, a.put none undef = a from fun _ => rfl]
      refine wp_region_mix (fun wz => wz.cell? ⟨lb, 10, none⟩ = some (.map (some mb)) ∧ wz.cell? ⟨lb, 9, none⟩ = some (.int .i64 nx)) (fun i => i == 8) 8 (by kernel_rfl) rfl (by kernel_rfl) (by kernel_rfl) (by kernel_rfl) ?_
      refine withFrP (N := 40) rfl ?_
      intro f0 F0 hff
      have e0 : f0 0 = Value.pointer (some ⟨lb, 0, none⟩) := hff 0
      clear hff
      have HCC : (fun wz => wz.cell? ⟨lb, 10, none⟩ = some (.map (some mb)) ∧ wz.cell? ⟨lb, 9, none⟩ = some (.int .i64 nx)) (({ X with drawn := X.drawn + 1 } : World)) := ⟨HSX.out.lm.b.cell 10, HSX.out.lm.b.cell 9⟩
      obtain ⟨w6, hrun, hm6, hc6, hs6⟩ := HMap.del (w := ({ X with drawn := X.drawn + 1 } : World)) (HSX.out.lm.m.same rfl) nx
      replace hrun : ∀ ty, (Builtin.delete_ #[75, 3] ty #[.map (some mb), .int .i64 nx]).run Try.prog ({ X with drawn := X.drawn + 1 } : World) = .ok (.tuple #[]) w6 := hrun
      refine lyp F0 rfl HCC rfl (by omega) (wanted_none rfl) (v := Value.pointer (some ⟨lb, 0, none⟩)) (fun wr hwr => by simp only [execOp, (F0.eval 0 (by omega)).trans (show _ = Value.pointer (some ⟨lb, 0, none⟩) from by simp [upd, e0])]; first | rfl | simp [go_sem]) fun Fr1 => ?_
      refine lyp Fr1 rfl HCC rfl (by omega) (wanted_none rfl) (v := Value.pointer (some ⟨lb, 0, none⟩)) (fun wr hwr => by simp only [execOp, (Fr1.eval 21 (by omega)).trans (show _ = Value.pointer (some ⟨lb, 0, none⟩) from by simp [upd, e0])]; simp [go_sem]) fun Fr2 => ?_
      refine lyp Fr2 rfl HCC rfl (by omega) (wanted_none rfl) (v := Value.pointer (some ⟨lb, 10, none⟩)) (fun wr hwr => by simp only [execOp, (Fr2.eval 22 (by omega)).trans (show _ = Value.pointer (some ⟨lb, 0, none⟩) from by simp [upd, e0])]; simp [go_sem]) fun Fr3 => ?_
      refine lyp Fr3 rfl HCC rfl (by omega) (wanted_none rfl) (v := Value.map (some mb)) (fun wr hwr => by simp only [execOp, (Fr3.eval 23 (by omega)).trans (show _ = Value.pointer (some ⟨lb, 10, none⟩) from by simp [upd, e0])]; simp [go_sem, hwr.1]) fun Fr4 => ?_
      refine lyp Fr4 rfl HCC rfl (by omega) (wanted_none rfl) (v := Value.pointer (some ⟨lb, 0, none⟩)) (fun wr hwr => by simp only [execOp, (Fr4.eval 0 (by omega)).trans (show _ = Value.pointer (some ⟨lb, 0, none⟩) from by simp [upd, e0])]; first | rfl | simp [go_sem]) fun Fr5 => ?_
      refine lyp Fr5 rfl HCC rfl (by omega) (wanted_none rfl) (v := Value.pointer (some ⟨lb, 0, none⟩)) (fun wr hwr => by simp only [execOp, (Fr5.eval 25 (by omega)).trans (show _ = Value.pointer (some ⟨lb, 0, none⟩) from by simp [upd, e0])]; simp [go_sem]) fun Fr6 => ?_
      refine lyp Fr6 rfl HCC rfl (by omega) (wanted_none rfl) (v := Value.pointer (some ⟨lb, 9, none⟩)) (fun wr hwr => by simp only [execOp, (Fr6.eval 26 (by omega)).trans (show _ = Value.pointer (some ⟨lb, 0, none⟩) from by simp [upd, e0])]; simp [go_sem]) fun Fr7 => ?_
      refine lyp Fr7 rfl HCC rfl (by omega) (wanted_none rfl) (v := Value.int .i64 nx) (fun wr hwr => by simp only [execOp, (Fr7.eval 27 (by omega)).trans (show _ = Value.pointer (some ⟨lb, 9, none⟩) from by simp [upd, e0])]; simp [go_sem, hwr.2]) fun Fr8 => ?_
      refine lsv rfl HCC rfl (wanted_none rfl) (v := .tuple #[]) (w1 := w6) (by simp only [execOp, resolve, invoke, builtin, List.map_toArray, List.map_cons, List.map_nil, (Fr8.eval 24 (by omega)).trans (show _ = Value.map (some mb) from by simp [upd, e0]), (Fr8.eval 28 (by omega)).trans (show _ = Value.int .i64 nx from by simp [upd, e0])]; simp [go_sem, builtin, show ∀ ty, (Builtin.delete_ #[75, 3] ty #[.map (some mb), .int .i64 nx]).run Try.prog X.drew = .ok (.tuple #[]) w6 from hrun, hrun]) ?_
      refine ⟨fun h => by omega, ?_⟩
      refine hK _ _ ?_
      clear F0 Fr1 Fr2 Fr3 Fr4 Fr5 Fr6 Fr7 Fr8 e0 HCC
      simp only [Act.put, List.setIfInBounds_toArray, List.set_cons_succ, List.set_cons_zero]
      have hstep := (HSX.out.more (Below.drew (Below.refl X.heap.size X))).step HA.out hdsl hm6 hc6
      obtain ⟨k9, g9, v8, w8, hr8, hU8⟩ := hstep
      obtain ⟨Y, hY⟩ : ∃ Y, Y = w6.setCell ⟨lb, 9, none⟩ (.int .i64 (nx + 1)) := ⟨_, rfl⟩
      rw [← hY, HDV.out] at hr8
      have HHR : Hid _ := hr8
      have HU8 : Hid _ := hU8
      have HEY : Hid (Y = w6.setCell ⟨lb, 9, none⟩ (.int .i64 (nx + 1))) := hY
      have HE8 : Hid (earlyLen mb w8 = (rmD nx E).length) := show earlyLen mb w8 = (rmD nx E).length from earlyLen_is hU8.lm.m
      clear hr8 hU8 hY hrun hm6 hc6 hs6 HSX
      go_upto_region 7 with fail
      rw [← HEY.out]
      clear HEY k9 g9
      go_wp2_with (at_builtin; refine wpList_runs rfl _ _ 36 rfl rfl rfl HHR.out ?_)
      go_roundw
      case rel => exact ⟨_, rfl, _, _, _, HU8.out, by have := HLEN.out; have := HP2.out; rw [List.length_append]; simp; omega⟩
      case measure => rw [HEL.out, HE8.out]; have := HP2.out; omega
    | none =>
      have VLK : ∀ wz, Below wr.heap.size wr wz → (Instr.lookup 75 (.map (some mb)) (.int .i64 nx) true).run Try.prog wz = .ok (.tuple #[.slice none 0 0, .bool false]) wz := fun wz hw => by
        have := hlk wz hw
        rw [show (x.at_ nx E).early = E from rfl, look_map, hA] at this
        exact this
      have HA : Hid (atD nx E = none) := hA
      clear hlk hA
      go_wp2_with fail
      rename_i K hK
      try rw [show ∀ a : Act, a.put none undef = a from fun _ => rfl]
      refine wp_region_mix (fun wz => Below wr.heap.size wr wz) (fun i => i == 99) 99 (by kernel_rfl) rfl (by kernel_rfl) (by kernel_rfl) (by kernel_rfl) ?_
      refine withFrP (N := 40) rfl ?_
      intro f0 F0 hff
      have e0 : f0 0 = Value.pointer (some ⟨lb, 0, none⟩) := hff 0
      clear hff
      have HCC : (fun wz => Below wr.heap.size wr wz) (({ wr with drawn := wr.drawn + 1 } : World)) := Below.drew (Below.refl _ _)
      have VM : ∀ wz, Below wr.heap.size wr wz → wz.cell? ⟨lb, 10, none⟩ = some (.map (some mb)) := fun wz hw => (HS.out.lm.more hw).b.cell 10
      have VN : ∀ wz, Below wr.heap.size wr wz → wz.cell? ⟨lb, 9, none⟩ = some (.int .i64 nx) := fun wz hw => (HS.out.lm.more hw).b.cell 9
      refine lyp F0 rfl HCC rfl (by omega) (wanted_none rfl) (v := Value.pointer (some ⟨lb, 0, none⟩)) (fun wr hwr => by simp only [execOp, (F0.eval 0 (by omega)).trans (show _ = Value.pointer (some ⟨lb, 0, none⟩) from by simp [upd, e0])]; first | rfl | simp [go_sem]) fun Fp1 => ?_
      refine lyp Fp1 rfl HCC rfl (by omega) (wanted_none rfl) (v := Value.pointer (some ⟨lb, 0, none⟩)) (fun wr hwr => by simp only [execOp, (Fp1.eval 7 (by omega)).trans (show _ = Value.pointer (some ⟨lb, 0, none⟩) from by simp [upd, e0])]; simp [go_sem]) fun Fp2 => ?_
      refine lyp Fp2 rfl HCC rfl (by omega) (wanted_none rfl) (v := Value.pointer (some ⟨lb, 10, none⟩)) (fun wr hwr => by simp only [execOp, (Fp2.eval 8 (by omega)).trans (show _ = Value.pointer (some ⟨lb, 0, none⟩) from by simp [upd, e0])]; simp [go_sem]) fun Fp3 => ?_
      refine lyp Fp3 rfl HCC rfl (by omega) (wanted_none rfl) (v := Value.map (some mb)) (fun wr hwr => by simp only [execOp, (Fp3.eval 9 (by omega)).trans (show _ = Value.pointer (some ⟨lb, 10, none⟩) from by simp [upd, e0])]; simp [go_sem, VM _ hwr]) fun Fp4 => ?_
      refine lyp Fp4 rfl HCC rfl (by omega) (wanted_none rfl) (v := Value.pointer (some ⟨lb, 0, none⟩)) (fun wr hwr => by simp only [execOp, (Fp4.eval 0 (by omega)).trans (show _ = Value.pointer (some ⟨lb, 0, none⟩) from by simp [upd, e0])]; first | rfl | simp [go_sem]) fun Fp5 => ?_
      refine lyp Fp5 rfl HCC rfl (by omega) (wanted_none rfl) (v := Value.pointer (some ⟨lb, 0, none⟩)) (fun wr hwr => by simp only [execOp, (Fp5.eval 11 (by omega)).trans (show _ = Value.pointer (some ⟨lb, 0, none⟩) from by simp [upd, e0])]; simp [go_sem]) fun Fp6 => ?_
      refine lyp Fp6 rfl HCC rfl (by omega) (wanted_none rfl) (v := Value.pointer (some ⟨lb, 9, none⟩)) (fun wr hwr => by simp only [execOp, (Fp6.eval 12 (by omega)).trans (show _ = Value.pointer (some ⟨lb, 0, none⟩) from by simp [upd, e0])]; simp [go_sem]) fun Fp7 => ?_
      refine lyp Fp7 rfl HCC rfl (by omega) (wanted_none rfl) (v := Value.int .i64 nx) (fun wr hwr => by simp only [execOp, (Fp7.eval 13 (by omega)).trans (show _ = Value.pointer (some ⟨lb, 9, none⟩) from by simp [upd, e0])]; simp [go_sem, VN _ hwr]) fun Fp8 => ?_
      refine lyp Fp8 rfl HCC rfl (by omega) (wanted_none rfl) (v := Value.tuple #[Value.slice none 0 0, Value.bool false]) (fun wr hwr => by simp only [execOp, (Fp8.eval 10 (by omega)).trans (show _ = Value.map (some mb) from by simp [upd, e0]), (Fp8.eval 14 (by omega)).trans (show _ = Value.int .i64 nx from by simp [upd, e0])]; simp only [Sem.run_bind, Sem.run_pure, Result.andThen_ok, VLK _ hwr]; try rfl) fun Fp9 => ?_
      refine lyp Fp9 rfl HCC rfl (by omega) (wanted_none rfl) (v := Value.tuple #[Value.slice none 0 0, Value.bool false]) (fun wr hwr => by simp only [execOp, (Fp9.eval 15 (by omega)).trans (show _ = Value.tuple #[Value.slice none 0 0, Value.bool false] from by simp [upd, e0])]; first | rfl | simp [go_sem]) fun Fp10 => ?_
      refine lyp Fp10 rfl HCC rfl (by omega) (wanted_none rfl) (v := Value.slice none 0 0) (fun wr hwr => by simp only [execOp, (Fp10.eval 6 (by omega)).trans (show _ = Value.tuple #[Value.slice none 0 0, Value.bool false] from by simp [upd, e0])]; simp [go_sem]) fun Fp11 => ?_
      refine lyp Fp11 rfl HCC rfl (by omega) (wanted_none rfl) (v := Value.bool false) (fun wr hwr => by simp only [execOp, (Fp11.eval 6 (by omega)).trans (show _ = Value.tuple #[Value.slice none 0 0, Value.bool false] from by simp [upd, e0])]; simp [go_sem]) fun Fp12 => ?_
      refine lyp Fp12 rfl HCC rfl (by omega) (wanted_none rfl) (v := Value.slice none 0 0) (fun wr hwr => by simp only [execOp, (Fp12.eval 16 (by omega)).trans (show _ = Value.slice none 0 0 from by simp [upd, e0])]; first | rfl | simp [go_sem]) fun Fp13 => ?_
      refine lyp Fp13 rfl HCC rfl (by omega) (wanted_none rfl) (v := Value.bool false) (fun wr hwr => by simp only [execOp, (Fp13.eval 17 (by omega)).trans (show _ = Value.bool false from by simp [upd, e0])]; first | rfl | simp [go_sem]) fun Fp14 => ?_
      refine ⟨fun _ => HCC, ?_⟩
      refine hK _ _ ?_
      clear F0 Fp1 Fp2 Fp3 Fp4 Fp5 Fp6 Fp7 Fp8 Fp9 Fp10 Fp11 Fp12 Fp13 Fp14 e0 VM VN
      simp only [Act.put, List.setIfInBounds_toArray, List.set_cons_succ, List.set_cons_zero]
      have HSF : Hid (HU L lb cb mb uv x w vd ds nx E ({ wr with drawn := wr.drawn + 1 } : World)) := HS.out.more HCC
      have HHD : Hid (handed x.early.length x.next x.early = (ds, nx, E)) := show _ = _ from by rw [HS.out.hd, handed_none HA.out, List.append_nil]
      clear HCC VLK HS
      go_wp2_with fail
      go_ret
      exact ⟨_, _, _, _, rfl, HSF.out, HHD.out⟩
end Go.Proofs.Ytcjgicfmfjomgaa
