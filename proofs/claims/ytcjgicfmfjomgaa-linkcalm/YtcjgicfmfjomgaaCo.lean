import Derived.Test.YtcjgicfmfjomgaaCo0
namespace Go.Proofs.Ytcjgicfmfjomgaa
open Go.RowKit Go.PlainAid Go.MapKept
set_option linter.unusedVariables false
set_option linter.unusedSimpArgs false
theorem load5 {w : World} {b : Nat} {f t q k v : Value} (h : Blk w b #[f, t, q, k, v] 45) : (Instr.loadAt 45 (.pointer (some ⟨b, 0, none⟩))).run Try.prog w = .ok (.agg #[f, t, q, k, v]) w := by
  simp only [Instr.loadAt, Instr.sureAddr, Sem.run_bind, Sem.run_pure, Result.andThen_ok, run_loadVar_row w b 45 45 _ (0, 0) _ h Try.underlying45 rfl (by kernel_rfl)]
set_option maxRecDepth 100000 in
set_option maxHeartbeats 6400000 in
theorem comes_0 {L xb nn t : Nat} {S : Ln} {col : Nat → Nat} {win : Nat → Nat} (q k : Int) (v : Value) (s : List UInt8) (w : World) (h : LNM L xb S col w) (hI : LInv S win nn t) (ht : t ≤ 400) (hv : By w v s) (hsl : s.length ≤ 4000) (hs : SegOk ((S.e 0).inn.map Dv.s) ((S.e 0).inn.length - (S.e 0).x.box.length) (S.e 1).out q k s) :
    Calls Try.prog 33 #[.pointer (some ⟨xb, 0, none⟩), .agg #[.int .i64 3, .int .i64 5, .int .i64 q, .int .i64 k, v]] w fun e w' => e = .returned (.bool true) ∧ ∃ uv' ds x' col', TakeEq (S.e 1).x q k s ds x' ∧ LNM L xb ((S.endX 1 uv' x').outO 0 ((S.e 0).out + ds.length)) col' w' ∧ Chg (fun j => j = xb ∨ lown (S.e 1).lb (S.e 1).cb (S.e 1).mb (S.e 1).uv (S.e 1).x j) w w' ∧ ∀ k, k < w.heap.size → col' k = col k := by
  obtain ⟨vo, n, vc, hvv, hn, _⟩ := id hv
  subst hvv
  obtain ⟨X, hX⟩ : ∃ X, X = w.alloc (.cells #[.int .i64 3, .int .i64 5, .int .i64 q, .int .i64 k, .slice vo n vc] 45) := ⟨_, rfl⟩
  obtain ⟨bx, hbx⟩ : ∃ bx, bx = w.heap.size := ⟨_, rfl⟩
  have hbX : Below w.heap.size w X := by rw [hX]; exact (Below.refl _ _).alloc (Nat.le_refl _) _
  have hBX : Blk X bx #[.int .i64 3, .int .i64 5, .int .i64 q, .int .i64 k, .slice vo n vc] 45 := by rw [hX, hbx]; exact heap_alloc_new w _
  have hn4 : n ≤ 4000 := by omega
  have HNE : Hid (s.length = n) := hn
  have HH : Hid (LNM L xb S col w) := h
  have HI : Hid (LInv S win nn t) := hI
  have HSG : Hid (SegOk ((S.e 0).inn.map Dv.s) ((S.e 0).inn.length - (S.e 0).x.box.length) (S.e 1).out q k s) := hs
  have HBX : Hid (Blk X bx #[.int .i64 3, .int .i64 5, .int .i64 q, .int .i64 k, .slice vo n vc] 45) := hBX
  have HbX : Hid (Below w.heap.size w X) := hbX
  have HES : Hid (bx = w.heap.size) := hbx
  have HLD : Hid _ := lend_any X (hv.keep hbX) hsl
  have b1 : X.cell? ⟨bx, 1, none⟩ = some (.int .i64 5) := hBX.cell 1
  have b4 : X.cell? ⟨bx, 4, none⟩ = some (.slice vo n vc) := hBX.cell 4
  clear h hI hs hbX hBX hv hn hsl
  go_enter Try.func33, Try.ntmps33
  go_upto_region 1 with fail
  rw [← hX, ← hbx]
  clear hX hbx
  go_wp2_with fail
  refine Calls.mono HLD.out ?_
  rintro e w2 ⟨v2, rfl, hr2, hb2⟩
  obtain ⟨c2, g2, hv2, hc2, hc2m, hg2, hg2l, hro2⟩ := lent_row hr2
  rw [HNE.out] at hv2 hc2 hro2
  subst hv2
  unfold maxLen at hc2m
  have hB2 : Blk w2 bx #[.int .i64 3, .int .i64 5, .int .i64 q, .int .i64 k, .slice vo n vc] 45 := Blk.below HBX.out hb2 HBX.out.lt
  have d4 : w2.cell? ⟨bx, 4, none⟩ = some (.slice vo n vc) := hB2.cell 4
  have f4 : w2.frozen? ⟨bx, 4, none⟩ = false := hB2.frozen 4
  obtain ⟨Y, hY⟩ : ∃ Y, Y = w2.setCell ⟨bx, 4, none⟩ (.slice (some ⟨g2, 0, none⟩) n c2) := ⟨_, rfl⟩
  have hBY : Blk Y bx #[.int .i64 3, .int .i64 5, .int .i64 q, .int .i64 k, .slice (some ⟨g2, 0, none⟩) n c2] 45 := by rw [hY]; exact hB2.set 4 _
  have hcY : Chg (fun k => k = bx) w2 Y := by rw [hY]; exact setCell_chg _ _ _ _
  have hb02 : Below w.heap.size w w2 := HbX.out.trans (hb2.mono HbX.out.size)
  have hbY : Below w.heap.size w Y := hb02.trans (hcY.below hb02.size (fun k hk => by rw [hk, HES.out]; exact Nat.le_refl _))
  have hXs : bx < X.heap.size := HBX.out.lt
  have hroY : Y.ownsRow X.heap.size 5 1 (.slice (some ⟨g2, 0, none⟩) n c2) s.length (s.map B) := by
    rw [HNE.out]
    exact ownsRow_same hro2 (fun g e => hcY.block g (ownsRow_lt hro2 e).2 (fun q => by have := (ownsRow_lt hro2 e).1; omega))
  have hLY := HH.out.more hbY
  have HCY : Hid (Blk Y bx #[.int .i64 3, .int .i64 5, .int .i64 q, .int .i64 k, .slice (some ⟨g2, 0, none⟩) n c2] 45 ∧ Y.cell? ⟨xb, 1, none⟩ = some (.pointer (some ⟨(S.e 1).lb, 0, none⟩))) := ⟨hBY, hLY.b.cell 1⟩
  have hei := HI.out.ei 1 (by omega)
  obtain ⟨a, ha⟩ : ∃ a, Dir (S.e 0).x (S.e 1).x ((S.e 0).inn.map Dv.s) (S.e 0).out a := HI.out.d 0 (by omega)
  obtain ⟨b, hb⟩ : ∃ a, Dir (S.e 1).x (S.e 0).x ((S.e 1).inn.map Dv.s) (S.e 1).out a := HI.out.d 1 (by omega)
  have hla := ha.len
  have hlb := hb.len
  rw [List.length_map] at hla hlb
  have hta := (HI.out.ei 0 (by omega)).ts
  have htb := hei.ts
  have hwJ := HI.out.wn 1 (by omega)
  have hfe := ha.few
  have hSS := HSG.out
  have hTK := take_any (L := L) (lb := (S.e 1).lb) (cb := (S.e 1).cb) (mb := (S.e 1).mb) (uv := (S.e 1).uv) (x := (S.e 1).x) q k Y.drew ((hLY.em 1 (by omega)).lm.more ((Below.refl _ _).drew)) (by rw [hb.ack]; omega) (by omega) (by have := ha.nx; have := ha.go; omega) (by rw [hei.wi]; omega) (by have := hei.wi; omega) (by have := hSS.2.2; omega) (by have h7 := hb.go; have h8 := hb.ack; have := hSS.2.1; have := hSS.1; omega) (fun e => by rw [hSS.2.2.2.2.1 e]; rfl) (show By Y.drew (.slice (some ⟨g2, 0, none⟩) n c2) s from own_by (hroY)) (fun k e hk => by
    have h1 := ((HH.out.em 1 (by omega)).lm.lt hk).2
    have e' : g2 = k := Option.some.inj e
    have := HbX.out.size
    omega) (by rw [HNE.out]; exact hn4)
  rw [hei.pe, hei.me] at hTK
  have HTK : Hid (Calls Try.prog 26 #[.pointer (some ⟨(S.e 1).lb, 0, none⟩), .agg #[.int .i64 3, .int .i64 5, .int .i64 q, .int .i64 k, .slice (some ⟨g2, 0, none⟩) n c2]] Y.drew _) := hTK
  have HC4F : Hid (∀ w4, Chg (lown (S.e 1).lb (S.e 1).cb (S.e 1).mb (S.e 1).uv (S.e 1).x) Y.drew w4 → Blk w4 bx #[.int .i64 3, .int .i64 5, .int .i64 q, .int .i64 k, .slice (some ⟨g2, 0, none⟩) n c2] 45 ∧ w4.cell? ⟨xb, 1, none⟩ = some (.pointer (some ⟨(S.e 1).lb, 0, none⟩))) := fun w4 hc => ⟨hc.blk hBY (fun hk => by
      have h1 := ((HH.out.em 1 (by omega)).lm.lt hk).2
      have := HES.out
      omega), (hc.blk (show Blk Y.drew xb (lnbox S) 60 from hLY.b) (fun hk => (hLY.ne_xb (i := 1) (by omega) (.inl hk)) rfl)).cell 1⟩
  have HLY : Hid (LNM L xb S col Y) := hLY
  have HbY : Hid (Below w.heap.size w Y) := hbY
  have HEY : Hid (Y = w2.setCell ⟨bx, 4, none⟩ (.slice (some ⟨g2, 0, none⟩) n c2)) := hY
  obtain ⟨lj, hlj⟩ : ∃ lj, lj = (S.e 1).lb := ⟨_, rfl⟩
  have HLJ : Hid (lj = (S.e 1).lb) := hlj
  rw [← hlj] at HTK HCY HC4F
  clear hr2 hb2 hro2 hB2 hBY hcY hb02 hbY hroY hLY hei ha hb hla hlb hta htb hwJ hfe hSS hTK hY hlj HLD b1 b4 hg2 hg2l hXs
  go_upto_region 6 with fail
  rw [← HEY.out]
  clear HEY d4 f4
  rename_i K hK
  try rw [show ∀ a : Act, a.put none undef = a from fun _ => rfl]
  refine wp_region_mix (fun wz => Blk wz bx #[.int .i64 3, .int .i64 5, .int .i64 q, .int .i64 k, .slice (some ⟨g2, 0, none⟩) n c2] 45 ∧ wz.cell? ⟨xb, 1, none⟩ = some (.pointer (some ⟨lj, 0, none⟩))) (fun i => i == 7 || i == 99) 99 (by kernel_rfl) rfl (by kernel_rfl) (by kernel_rfl) (by kernel_rfl) ?_
  refine withFrP (N := 104) rfl ?_
  intro f0 F0 hff
  have e0 : f0 0 = Value.pointer (some ⟨xb, 0, none⟩) := hff 0
  have e3 : f0 3 = Value.pointer (some ⟨bx, 0, none⟩) := hff 3
  have e5 : f0 5 = Value.int .i64 1 := hff 5
  clear hff
  have HCC : (fun wz => Blk wz bx #[.int .i64 3, .int .i64 5, .int .i64 q, .int .i64 k, .slice (some ⟨g2, 0, none⟩) n c2] 45 ∧ wz.cell? ⟨xb, 1, none⟩ = some (.pointer (some ⟨lj, 0, none⟩))) (({ Y with drawn := Y.drawn + 1 } : World)) := HCY.out
  refine lyp F0 rfl HCC rfl (by omega) (wanted_none rfl) (v := Value.pointer (some ⟨xb, 0, none⟩)) (fun wr hwr => by simp only [execOp, (F0.eval 0 (by omega)).trans (show _ = Value.pointer (some ⟨xb, 0, none⟩) from by simp [upd, e0, e3, e5])]; first | rfl | simp [go_sem]) fun Fp1 => ?_
  refine lyp Fp1 rfl HCC rfl (by omega) (wanted_none rfl) (v := Value.int .i64 1) (fun wr hwr => by simp only [execOp, (Fp1.eval 5 (by omega)).trans (show _ = Value.int .i64 1 from by simp [upd, e0, e3, e5])]; first | rfl | simp [go_sem]) fun Fp2 => ?_
  refine lyp Fp2 rfl HCC rfl (by omega) (wanted_none rfl) (v := Value.pointer (some ⟨xb, 0, none⟩)) (fun wr hwr => by simp only [execOp, (Fp2.eval 24 (by omega)).trans (show _ = Value.pointer (some ⟨xb, 0, none⟩) from by simp [upd, e0, e3, e5])]; simp [go_sem]) fun Fp3 => ?_
  refine lyp Fp3 rfl HCC rfl (by omega) (wanted_none rfl) (v := Value.pointer (some ⟨xb, 0, none⟩)) (fun wr hwr => by simp only [execOp, (Fp3.eval 26 (by omega)).trans (show _ = Value.pointer (some ⟨xb, 0, none⟩) from by simp [upd, e0, e3, e5])]; simp [go_sem]) fun Fp4 => ?_
  refine lyp Fp4 rfl HCC rfl (by omega) (wanted_none rfl) (v := Value.pointer (some ⟨xb, 1, none⟩)) (fun wr hwr => by simp only [execOp, (Fp4.eval 27 (by omega)).trans (show _ = Value.pointer (some ⟨xb, 0, none⟩) from by simp [upd, e0, e3, e5]), (Fp4.eval 25 (by omega)).trans (show _ = Value.int .i64 1 from by simp [upd, e0, e3, e5])]; simp [go_sem, Act.eval]) fun Fp5 => ?_
  refine lyp Fp5 rfl HCC rfl (by omega) (wanted_none rfl) (v := Value.pointer (some ⟨lj, 0, none⟩)) (fun wr hwr => by simp only [execOp, (Fp5.eval 28 (by omega)).trans (show _ = Value.pointer (some ⟨xb, 1, none⟩) from by simp [upd, e0, e3, e5])]; simp [go_sem, hwr.2]) fun Fp6 => ?_
  refine lyp Fp6 rfl HCC rfl (by omega) (wanted_none rfl) (v := Value.agg #[.int .i64 3, .int .i64 5, .int .i64 q, .int .i64 k, .slice (some ⟨g2, 0, none⟩) n c2]) (fun wr hwr => by simp only [execOp, (Fp6.eval 3 (by omega)).trans (show _ = Value.pointer (some ⟨bx, 0, none⟩) from by simp [upd, e0, e3, e5])]; simp only [Sem.run_bind, Sem.run_pure, Result.andThen_ok, load5 hwr.1]; try rfl) fun Fp7 => ?_
  refine lcp Fp7 rfl HCC rfl (by omega) (wanted_none rfl) (g := 26) (args := #[Value.pointer (some ⟨lj, 0, none⟩), Value.agg #[.int .i64 3, .int .i64 5, .int .i64 q, .int .i64 k, .slice (some ⟨g2, 0, none⟩) n c2]]) (by simp only [execOp, resolve, invoke, List.map_toArray, List.map_cons, List.map_nil, (Fp7.eval 29 (by omega)).trans (show _ = Value.pointer (some ⟨lj, 0, none⟩) from by simp [upd, e0, e3, e5]), (Fp7.eval 30 (by omega)).trans (show _ = Value.agg #[.int .i64 3, .int .i64 5, .int .i64 q, .int .i64 k, .slice (some ⟨g2, 0, none⟩) n c2] from by simp [upd, e0, e3, e5])]; simp [go_sem, Act.eval]) HTK.out ?_
  rintro e w4 ⟨v4, uv4, ds, x4, rfl, hTG⟩
  refine ⟨_, rfl, fun Fp8 => ?_⟩
  have HC4 : (fun wz => Blk wz bx #[.int .i64 3, .int .i64 5, .int .i64 q, .int .i64 k, .slice (some ⟨g2, 0, none⟩) n c2] 45 ∧ wz.cell? ⟨xb, 1, none⟩ = some (.pointer (some ⟨lj, 0, none⟩))) w4 := HC4F.out w4 hTG.st.1
  refine lyp Fp8 rfl HC4 rfl (by omega) (wanted_none rfl) (v := Value.tuple #[v4, Value.int .i64 0]) (fun wr hwr => by simp only [execOp, (Fp8.eval 31 (by omega)).trans (show _ = Value.tuple #[v4, Value.int .i64 0] from by simp [upd, e0, e3, e5])]; first | rfl | simp [go_sem]) fun Fp9 => ?_
  refine lyp Fp9 rfl HC4 rfl (by omega) (wanted_none rfl) (v := v4) (fun wr hwr => by simp only [execOp, (Fp9.eval 23 (by omega)).trans (show _ = Value.tuple #[v4, Value.int .i64 0] from by simp [upd, e0, e3, e5])]; simp [go_sem]) fun Fp10 => ?_
  refine lyp Fp10 rfl HC4 rfl (by omega) (wanted_none rfl) (v := Value.int .i64 0) (fun wr hwr => by simp only [execOp, (Fp10.eval 23 (by omega)).trans (show _ = Value.tuple #[v4, Value.int .i64 0] from by simp [upd, e0, e3, e5])]; simp [go_sem]) fun Fp11 => ?_
  refine lyp Fp11 rfl HC4 rfl (by omega) (wanted_none rfl) (v := v4) (fun wr hwr => by simp only [execOp, (Fp11.eval 32 (by omega)).trans (show _ = v4 from by simp [upd, e0, e3, e5])]; first | rfl | simp [go_sem]) fun Fp12 => ?_
  refine lyp Fp12 rfl HC4 rfl (by omega) (wanted_none rfl) (v := Value.int .i64 0) (fun wr hwr => by simp only [execOp, (Fp12.eval 33 (by omega)).trans (show _ = Value.int .i64 0 from by simp [upd, e0, e3, e5])]; first | rfl | simp [go_sem]) fun Fp13 => ?_
  refine ⟨fun _ => HC4, ?_⟩
  refine hK _ _ ?_
  clear F0 Fp1 Fp2 Fp3 Fp4 Fp5 Fp6 Fp7 Fp8 Fp9 Fp10 Fp11 Fp12 Fp13 e0 e3 e5 HCC HC4
  simp only [Act.put, List.setIfInBounds_toArray, List.set_cons_succ, List.set_cons_zero]
  have HDR : Hid (LNM L xb S col Y.drew) := HLY.out.more ((Below.refl _ _).drew)
  have HbD : Hid (Below w.heap.size w Y.drew) := HbY.out.drew
  rw [HLJ.out] at hTG
  obtain ⟨col4, hL4, hcol4⟩ := HDR.out.endStep (i := 1) (by omega) hTG.lm hTG.st
  have hteq : TakeEq (S.e 1).x q k s ds x4 := hTG.eq
  have hinv := HI.out.takes (i := 0) (by omega) uv4 HSG.out hteq
  obtain ⟨o, ho⟩ : ∃ o, o = (S.e 0).out := ⟨_, rfl⟩
  obtain ⟨dn, hdn⟩ : ∃ dn, dn = ds.length := ⟨_, rfl⟩
  have HDN : Hid (dn = ds.length) := hdn
  have HO : Hid (o = (S.e 0).out) := ho
  obtain ⟨S4, hS4⟩ : ∃ S4, S4 = S.endX 1 uv4 x4 := ⟨_, rfl⟩
  rw [← hS4] at hL4
  have HAT : Hid (∀ m d, ds[m]? = some d → ((S.e 0).inn.map Dv.s)[o + m]? = some d.s) := by rw [ho]; exact hinv.2.1
  have hol : o + dn ≤ (S.e 0).inn.length := by rw [ho, hdn]; exact hinv.2.2.1
  have HNX0 : Hid (x4.next = ((o + dn : Nat) : Int) + 1) := by rw [ho, hdn]; exact hinv.2.2.2
  have HTE : Hid (TakeEq (S.e 1).x q k s ds x4) := hteq
  have hts := (HI.out.ei 0 (by omega)).ts
  have HS4 : Hid (S4 = S.endX 1 uv4 x4) := hS4
  have eI : S4.e 0 = S.e 0 := by rw [hS4]; exact Ln.endX_ne _ _ _ (by decide)
  have eJ : (S4.e 1).x = x4 ∧ (S4.e 1).lb = lj := by rw [hS4, Ln.endX_same]; exact ⟨rfl, HLJ.out.symm⟩
  have HEI : Hid (S4.e 0 = S.e 0) := eI
  have HEJ : Hid ((S4.e 1).x = x4 ∧ (S4.e 1).lb = lj) := eJ
  obtain ⟨uo, uc, hv4, _⟩ := own_slice hTG.r
  rw [← hdn] at hv4
  obtain ⟨AJ, hAJ⟩ : ∃ AJ : Nat → Prop, AJ = fun j => j = xb ∨ lown (S.e 1).lb (S.e 1).cb (S.e 1).mb (S.e 1).uv (S.e 1).x j := ⟨_, rfl⟩
  have HAJ : Hid (AJ = fun j => j = xb ∨ lown (S.e 1).lb (S.e 1).cb (S.e 1).mb (S.e 1).uv (S.e 1).x j) := hAJ
  have HAX : Hid (AJ xb) := show AJ xb from by rw [hAJ]; exact Or.inl rfl
  have hCM : CM L Y.heap.size xb S4 col4 0 o 0 v4 ds AJ w w4 := by
    refine ⟨?_, hTG.r, hTG.dt, ?_⟩
    · rw [Nat.add_zero, ho, ← eI, Ln.outO_self]
      exact hL4
    · rw [hAJ]
      exact (Chg.ofBelow _ HbD.out).trans (hTG.st.1.mono (fun j _ e => Or.inr e)) (fun _ _ e => e)
  have HCM : Hid (CM L Y.heap.size xb S4 col4 0 o 0 v4 ds AJ w w4) := hCM
  have HCL : Hid (∀ k, k < w.heap.size → col4 k = col k) := fun k hk => hcol4 k (Nat.lt_of_lt_of_le hk HbD.out.size)
  obtain ⟨il, hil⟩ : ∃ il, il = (S.e 0).inn.length := ⟨_, rfl⟩
  rw [← hil] at hol hts
  have HIL : Hid (il = (S.e 0).inn.length) := hil
  subst hv4
  clear hAJ hTG hL4 hcol4 hteq hinv ho hdn hS4 eI eJ hCM hil HTK HC4F HCY HDR HbD HLY HbY HBX HbX
  go_wp2_with fail
  go_loopw [9, 10] (fun s9 _ wr => ∃ m : Nat, m ≤ dn ∧ s9 = .int .i64 (m : Int) ∧ CM L Y.heap.size xb S4 col4 0 o m (.slice uo dn uc) ds AJ w wr) (fun s9 _ _ => dn - (intOf s9).toNat)
  case atStart => exact ⟨0, by omega, rfl, HCM.out⟩
  case round =>
    obtain ⟨m, hm, rfl, hC⟩ := hrel
    have HC : Hid (CM L Y.heap.size xb S4 col4 0 o m (.slice uo dn uc) ds AJ w wr) := hC
    have c4 : wr.cell? ⟨xb, 4, none⟩ = some (.int .i64 ((o + m : Nat) : Int)) := by
      have := hC.ln.b.cell 4
      exact this.trans (by rfl)
    clear hC HCM
    by_cases hml : m < dn
    · obtain ⟨d, hd⟩ : ∃ d, ds[m]? = some d := ⟨ds[m]'(by rw [← HDN.out]; exact hml), List.getElem?_eq_getElem _⟩
      have hoi : o + m < il := by omega
      have hoi' : o + m < (S.e 0).inn.length := by rw [← HIL.out]; exact hoi
      obtain ⟨di, hdi⟩ : ∃ di, (S.e 0).inn[o + m]? = some di := ⟨(S.e 0).inn[o + m], List.getElem?_eq_getElem _⟩
      have hds : di.s = d.s := by
        have h1 := HAT.out m d hd
        rw [List.getElem?_map, hdi] at h1
        exact Option.some.inj h1
      obtain ⟨uo', uc', huv, _, _, hrd⟩ := own_read HC.out.r
      obtain ⟨ug, hug, _, hugl, hucl⟩ := hrd (by rw [← HDN.out]; omega)
      have euo := (Value.slice.inj huv).1
      rw [hug] at euo
      have hem := HC.out.ln.em 0 (by omega)
      have eE : ((S4.outO 0 (o + m)).e 0).iv = (S.e 0).iv ∧ ((S4.outO 0 (o + m)).e 0).inn = (S.e 0).inn := by rw [Ln.outO_same, HEI.out]; exact ⟨rfl, rfl⟩
      have hir := hem.ir
      have hid := hem.id
      rw [eE.1, eE.2] at hir
      rw [eE.2] at hid
      obtain ⟨io, ic, hiv, _, _, hird⟩ := own_read hir
      obtain ⟨ig, hig, _, higl, hicl⟩ := hird (by omega)
      rw [hig, ← HIL.out] at hiv
      have hc2 : wr.cell? ⟨xb, 2, none⟩ = some (.slice (some ⟨ig, 0, none⟩) il ic) := by
        rw [← hiv, ← eE.1]
        exact HC.out.ln.b.cell 2
      have hxl := HC.out.ln.b.lt
      have VI : ∀ wz, Below wr.heap.size wr wz → wz.cell? ⟨xb, 2, none⟩ = some (.slice (some ⟨ig, 0, none⟩) il ic) := fun wz hb => (hb.cell (p := ⟨xb, 2, none⟩) hxl).trans hc2
      have VU : ∀ wz, Below wr.heap.size wr wz → wz.cell? ⟨ug, m, none⟩ = some d.v := fun wz hb => (hb.cell (p := ⟨ug, m, none⟩) hugl).trans (hucl m d.v (by rw [List.getElem?_map, hd]; rfl))
      have VJ : ∀ wz, Below wr.heap.size wr wz → wz.cell? ⟨ig, o + m, none⟩ = some di.v := fun wz hb => (hb.cell (p := ⟨ig, o + m, none⟩) higl).trans (hicl (o + m) di.v (by rw [List.getElem?_map, hdi]; rfl))
      have HSM : Hid (Calls Try.prog 20 #[d.v, di.v] wr.drew fun e w' => e = .returned (.bool true) ∧ w' = wr.drew) := (same_any wr.drew (own_by (HC.out.dt d (List.mem_of_getElem? hd))) (show By wr.drew di.v d.s from by rw [← hds]; exact own_by (hid di (List.mem_of_getElem? hdi)))).mono (by rintro e w' ⟨rfl, rfl⟩; simp)
      have hfz : wr.frozen? ⟨xb, 4, none⟩ = false := HC.out.ln.b.frozen 4
      have HFZ : Hid (wr.frozen? ⟨xb, 4, none⟩ = false) := hfz
      clear hd hoi' hdi hds huv hrd hug hucl hem eE hir hid hiv hird hig hicl hc2 hfz
      subst euo
      go_upto_region 13 with fail
      rename_i K hK
      try rw [show ∀ a : Act, a.put none undef = a from fun _ => rfl]
      refine wp_region_mix (fun wz => Below wr.heap.size wr wz) (fun i => i == 25 || i == 99) 99 (by kernel_rfl) rfl (by kernel_rfl) (by kernel_rfl) (by kernel_rfl) ?_
      refine withFrP (N := 104) rfl ?_
      intro f0 F0 hff
      have e0 : f0 0 = Value.pointer (some ⟨xb, 0, none⟩) := hff 0
      have e5 : f0 5 = Value.int .i64 1 := hff 5
      have e7 : f0 7 = Value.slice (some ⟨ug, 0, none⟩) dn uc := hff 7
      have e9 : f0 9 = Value.int .i64 (m : Int) := hff 9
      have e10 : f0 10 = Value.int .i64 ((o + m : Nat) : Int) := hff 10
      clear hff
      have HCC : (fun wz => Below wr.heap.size wr wz) (({ wr with drawn := wr.drawn + 1 } : World)) := (Below.refl _ _).drew
      refine lyp F0 rfl HCC rfl (by omega) (wanted_none rfl) (v := Value.int .i64 ((o + m : Nat) : Int)) (fun wr hwr => by simp only [execOp, (F0.eval 10 (by omega)).trans (show _ = Value.int .i64 ((o + m : Nat) : Int) from by simp [upd, e0, e5, e7, e9, e10])]; first | rfl | simp [go_sem]) fun Fr1 => ?_
      refine lyp Fr1 rfl HCC rfl (by omega) (wanted_none rfl) (v := Value.pointer (some ⟨xb, 0, none⟩)) (fun wr hwr => by simp only [execOp, (Fr1.eval 0 (by omega)).trans (show _ = Value.pointer (some ⟨xb, 0, none⟩) from by simp [upd, e0, e5, e7, e9, e10])]; first | rfl | simp [go_sem]) fun Fr2 => ?_
      refine lyp Fr2 rfl HCC rfl (by omega) (wanted_none rfl) (v := Value.int .i64 1) (fun wr hwr => by simp only [execOp, (Fr2.eval 5 (by omega)).trans (show _ = Value.int .i64 1 from by simp [upd, e0, e5, e7, e9, e10])]; first | rfl | simp [go_sem]) fun Fr3 => ?_
      refine lyp Fr3 rfl HCC rfl (by omega) (wanted_none rfl) (v := Value.int .i64 0) (fun wr hwr => by simp only [execOp, (Fr3.eval 51 (by omega)).trans (show _ = Value.int .i64 1 from by simp [upd, e0, e5, e7, e9, e10])]; simp [go_sem, Act.eval]; try rfl) fun Fr4 => ?_
      refine lyp Fr4 rfl HCC rfl (by omega) (wanted_none rfl) (v := Value.pointer (some ⟨xb, 0, none⟩)) (fun wr hwr => by simp only [execOp, (Fr4.eval 50 (by omega)).trans (show _ = Value.pointer (some ⟨xb, 0, none⟩) from by simp [upd, e0, e5, e7, e9, e10])]; simp [go_sem]) fun Fr5 => ?_
      refine lyp Fr5 rfl HCC rfl (by omega) (wanted_none rfl) (v := Value.pointer (some ⟨xb, 2, none⟩)) (fun wr hwr => by simp only [execOp, (Fr5.eval 53 (by omega)).trans (show _ = Value.pointer (some ⟨xb, 0, none⟩) from by simp [upd, e0, e5, e7, e9, e10])]; simp [go_sem]) fun Fr6 => ?_
      refine lyp Fr6 rfl HCC rfl (by omega) (wanted_none rfl) (v := Value.pointer (some ⟨xb, 2, none⟩)) (fun wr hwr => by simp only [execOp, (Fr6.eval 54 (by omega)).trans (show _ = Value.pointer (some ⟨xb, 2, none⟩) from by simp [upd, e0, e5, e7, e9, e10]), (Fr6.eval 52 (by omega)).trans (show _ = Value.int .i64 0 from by simp [upd, e0, e5, e7, e9, e10])]; simp [go_sem, Act.eval]) fun Fr7 => ?_
      refine lyp Fr7 rfl HCC rfl (by omega) (wanted_none rfl) (v := Value.slice (some ⟨ig, 0, none⟩) il ic) (fun wr hwr => by simp only [execOp, (Fr7.eval 55 (by omega)).trans (show _ = Value.pointer (some ⟨xb, 2, none⟩) from by simp [upd, e0, e5, e7, e9, e10])]; simp [go_sem, VI wr hwr]) fun Fr8 => ?_
      refine lyp Fr8 rfl HCC rfl (by omega) (wanted_none rfl) (v := Value.int .i64 (il : Nat)) (fun wr hwr => by simp only [execOp, resolve, invoke, builtin, List.map_toArray, List.map_cons, List.map_nil, (Fr8.eval 56 (by omega)).trans (show _ = Value.slice (some ⟨ig, 0, none⟩) il ic from by simp [upd, e0, e5, e7, e9, e10])]; simp [go_sem, Builtin.len_, Builtin.lenOf]) fun Fr9 => ?_
      refine lyp Fr9 rfl HCC rfl (by omega) (wanted_none rfl) (v := Value.bool false) (fun wr hwr => by simp only [execOp, (Fr9.eval 49 (by omega)).trans (show _ = Value.int .i64 ((o + m : Nat) : Int) from by simp [upd, e0, e5, e7, e9, e10]), (Fr9.eval 57 (by omega)).trans (show _ = Value.int .i64 (il : Nat) from by simp [upd, e0, e5, e7, e9, e10])]; simp [go_sem, Act.eval]; omega) fun Fr10 => ?_
      refine lyp Fr10 rfl HCC rfl (by omega) (wanted_none rfl) (v := Value.bool false) (fun wr hwr => by simp only [execOp, (Fr10.eval 58 (by omega)).trans (show _ = Value.bool false from by simp [upd, e0, e5, e7, e9, e10])]; first | rfl | simp [go_sem]) fun Fr11 => ?_
      refine lyp Fr11 rfl HCC rfl (by omega) (want_yes Fr11 rfl (e := 59) rfl (by omega) (show _ = Value.bool false from by simp [upd, e0, e5, e7, e9, e10])) (v := Value.slice (some ⟨ug, 0, none⟩) dn uc) (fun wr hwr => by simp only [execOp, (Fr11.eval 7 (by omega)).trans (show _ = Value.slice (some ⟨ug, 0, none⟩) dn uc from by simp [upd, e0, e5, e7, e9, e10])]; first | rfl | simp [go_sem]) fun Fr12 => ?_
      refine lyp Fr12 rfl HCC rfl (by omega) (want_yes Fr12 rfl (e := 59) rfl (by omega) (show _ = Value.bool false from by simp [upd, e0, e5, e7, e9, e10])) (v := Value.int .i64 (m : Int)) (fun wr hwr => by simp only [execOp, (Fr12.eval 9 (by omega)).trans (show _ = Value.int .i64 (m : Int) from by simp [upd, e0, e5, e7, e9, e10])]; first | rfl | simp [go_sem]) fun Fr13 => ?_
      refine lyp Fr13 rfl HCC rfl (by omega) (want_yes Fr13 rfl (e := 59) rfl (by omega) (show _ = Value.bool false from by simp [upd, e0, e5, e7, e9, e10])) (v := Value.pointer (some ⟨ug, m, none⟩)) (fun wr hwr => by simp only [execOp, (Fr13.eval 60 (by omega)).trans (show _ = Value.slice (some ⟨ug, 0, none⟩) dn uc from by simp [upd, e0, e5, e7, e9, e10]), (Fr13.eval 61 (by omega)).trans (show _ = Value.int .i64 (m : Int) from by simp [upd, e0, e5, e7, e9, e10])]; simp only [Sem.run_bind, Sem.run_pure, Result.andThen_ok, idx_run 36 41 1 Try.underlying36 (by kernel_rfl) _ ug 0 dn uc m hml, Nat.zero_add, Nat.mul_one]; try rfl) fun Fr14 => ?_
      refine lyp Fr14 rfl HCC rfl (by omega) (want_yes Fr14 rfl (e := 59) rfl (by omega) (show _ = Value.bool false from by simp [upd, e0, e5, e7, e9, e10])) (v := d.v) (fun wr hwr => by simp only [execOp, (Fr14.eval 62 (by omega)).trans (show _ = Value.pointer (some ⟨ug, m, none⟩) from by simp [upd, e0, e5, e7, e9, e10])]; simp [go_sem, VU wr hwr]) fun Fr15 => ?_
      refine lyp Fr15 rfl HCC rfl (by omega) (want_yes Fr15 rfl (e := 59) rfl (by omega) (show _ = Value.bool false from by simp [upd, e0, e5, e7, e9, e10])) (v := Value.pointer (some ⟨xb, 0, none⟩)) (fun wr hwr => by simp only [execOp, (Fr15.eval 0 (by omega)).trans (show _ = Value.pointer (some ⟨xb, 0, none⟩) from by simp [upd, e0, e5, e7, e9, e10])]; first | rfl | simp [go_sem]) fun Fr16 => ?_
      refine lyp Fr16 rfl HCC rfl (by omega) (want_yes Fr16 rfl (e := 59) rfl (by omega) (show _ = Value.bool false from by simp [upd, e0, e5, e7, e9, e10])) (v := Value.int .i64 1) (fun wr hwr => by simp only [execOp, (Fr16.eval 5 (by omega)).trans (show _ = Value.int .i64 1 from by simp [upd, e0, e5, e7, e9, e10])]; first | rfl | simp [go_sem]) fun Fr17 => ?_
      refine lyp Fr17 rfl HCC rfl (by omega) (want_yes Fr17 rfl (e := 59) rfl (by omega) (show _ = Value.bool false from by simp [upd, e0, e5, e7, e9, e10])) (v := Value.int .i64 0) (fun wr hwr => by simp only [execOp, (Fr17.eval 65 (by omega)).trans (show _ = Value.int .i64 1 from by simp [upd, e0, e5, e7, e9, e10])]; simp [go_sem, Act.eval]; try rfl) fun Fr18 => ?_
      refine lyp Fr18 rfl HCC rfl (by omega) (want_yes Fr18 rfl (e := 59) rfl (by omega) (show _ = Value.bool false from by simp [upd, e0, e5, e7, e9, e10])) (v := Value.pointer (some ⟨xb, 0, none⟩)) (fun wr hwr => by simp only [execOp, (Fr18.eval 64 (by omega)).trans (show _ = Value.pointer (some ⟨xb, 0, none⟩) from by simp [upd, e0, e5, e7, e9, e10])]; simp [go_sem]) fun Fr19 => ?_
      refine lyp Fr19 rfl HCC rfl (by omega) (want_yes Fr19 rfl (e := 59) rfl (by omega) (show _ = Value.bool false from by simp [upd, e0, e5, e7, e9, e10])) (v := Value.pointer (some ⟨xb, 2, none⟩)) (fun wr hwr => by simp only [execOp, (Fr19.eval 67 (by omega)).trans (show _ = Value.pointer (some ⟨xb, 0, none⟩) from by simp [upd, e0, e5, e7, e9, e10])]; simp [go_sem]) fun Fr20 => ?_
      refine lyp Fr20 rfl HCC rfl (by omega) (want_yes Fr20 rfl (e := 59) rfl (by omega) (show _ = Value.bool false from by simp [upd, e0, e5, e7, e9, e10])) (v := Value.pointer (some ⟨xb, 2, none⟩)) (fun wr hwr => by simp only [execOp, (Fr20.eval 68 (by omega)).trans (show _ = Value.pointer (some ⟨xb, 2, none⟩) from by simp [upd, e0, e5, e7, e9, e10]), (Fr20.eval 66 (by omega)).trans (show _ = Value.int .i64 0 from by simp [upd, e0, e5, e7, e9, e10])]; simp [go_sem, Act.eval]) fun Fr21 => ?_
      refine lyp Fr21 rfl HCC rfl (by omega) (want_yes Fr21 rfl (e := 59) rfl (by omega) (show _ = Value.bool false from by simp [upd, e0, e5, e7, e9, e10])) (v := Value.slice (some ⟨ig, 0, none⟩) il ic) (fun wr hwr => by simp only [execOp, (Fr21.eval 69 (by omega)).trans (show _ = Value.pointer (some ⟨xb, 2, none⟩) from by simp [upd, e0, e5, e7, e9, e10])]; simp [go_sem, VI wr hwr]) fun Fr22 => ?_
      refine lyp Fr22 rfl HCC rfl (by omega) (want_yes Fr22 rfl (e := 59) rfl (by omega) (show _ = Value.bool false from by simp [upd, e0, e5, e7, e9, e10])) (v := Value.int .i64 ((o + m : Nat) : Int)) (fun wr hwr => by simp only [execOp, (Fr22.eval 10 (by omega)).trans (show _ = Value.int .i64 ((o + m : Nat) : Int) from by simp [upd, e0, e5, e7, e9, e10])]; first | rfl | simp [go_sem]) fun Fr23 => ?_
      refine lyp Fr23 rfl HCC rfl (by omega) (want_yes Fr23 rfl (e := 59) rfl (by omega) (show _ = Value.bool false from by simp [upd, e0, e5, e7, e9, e10])) (v := Value.pointer (some ⟨ig, o + m, none⟩)) (fun wr hwr => by simp only [execOp, (Fr23.eval 70 (by omega)).trans (show _ = Value.slice (some ⟨ig, 0, none⟩) il ic from by simp [upd, e0, e5, e7, e9, e10]), (Fr23.eval 71 (by omega)).trans (show _ = Value.int .i64 ((o + m : Nat) : Int) from by simp [upd, e0, e5, e7, e9, e10])]; simp only [Sem.run_bind, Sem.run_pure, Result.andThen_ok, idx_run 36 41 1 Try.underlying36 (by kernel_rfl) _ ig 0 il ic (o + m) hoi, Nat.zero_add, Nat.mul_one]; try rfl) fun Fr24 => ?_
      refine lyp Fr24 rfl HCC rfl (by omega) (want_yes Fr24 rfl (e := 59) rfl (by omega) (show _ = Value.bool false from by simp [upd, e0, e5, e7, e9, e10])) (v := di.v) (fun wr hwr => by simp only [execOp, (Fr24.eval 72 (by omega)).trans (show _ = Value.pointer (some ⟨ig, o + m, none⟩) from by simp [upd, e0, e5, e7, e9, e10])]; simp [go_sem, VJ wr hwr]) fun Fr25 => ?_
      refine lcp Fr25 rfl HCC rfl (by omega) (want_yes Fr25 rfl (e := 59) rfl (by omega) (show _ = Value.bool false from by simp [upd, e0, e5, e7, e9, e10])) (g := 20) (args := #[d.v, di.v]) (by simp only [execOp, resolve, invoke, List.map_toArray, List.map_cons, List.map_nil, (Fr25.eval 63 (by omega)).trans (show _ = d.v from by simp [upd, e0, e5, e7, e9, e10]), (Fr25.eval 73 (by omega)).trans (show _ = di.v from by simp [upd, e0, e5, e7, e9, e10])]; simp [go_sem, Act.eval]) HSM.out ?_
      rintro e w2 ⟨rfl, rfl⟩
      refine ⟨_, rfl, fun Fr26 => ?_⟩
      refine lyp Fr26 rfl HCC rfl (by omega) (want_yes Fr26 rfl (e := 59) rfl (by omega) (show _ = Value.bool false from by simp [upd, e0, e5, e7, e9, e10])) (v := Value.bool false) (fun wr hwr => by simp only [execOp, (Fr26.eval 74 (by omega)).trans (show _ = Value.bool true from by simp [upd, e0, e5, e7, e9, e10])]; simp [go_sem, Act.eval]) fun Fr27 => ?_
      refine lyp Fr27 rfl HCC rfl (by omega) (wanted_none rfl) (v := Value.bool false) (fun wr hwr => by simp only [execOp, (Fr27.eval 59 (by omega)).trans (show _ = Value.bool false from by simp [upd, e0, e5, e7, e9, e10]), (Fr27.eval 75 (by omega)).trans (show _ = Value.bool false from by simp [upd, e0, e5, e7, e9, e10])]; simp [go_sem, Act.eval]) fun Fr28 => ?_
      refine ⟨fun _ => HCC, ?_⟩
      refine hK _ _ ?_
      clear F0 Fr1 Fr2 Fr3 Fr4 Fr5 Fr6 Fr7 Fr8 Fr9 Fr10 Fr11 Fr12 Fr13 Fr14 Fr15 Fr16 Fr17 Fr18 Fr19 Fr20 Fr21 Fr22 Fr23 Fr24 Fr25 Fr26 Fr27 Fr28 e0 e5 e7 e9 e10 HCC
      simp only [Act.put, List.setIfInBounds_toArray, List.set_cons_succ, List.set_cons_zero]
      obtain ⟨X5, hX5⟩ : ∃ X5 : World, X5 = wr.drew := ⟨_, rfl⟩
      rw [← hX5]
      have HC5 : Hid (CM L Y.heap.size xb S4 col4 0 o m (.slice (some ⟨ug, 0, none⟩) dn uc) ds AJ w X5) := show CM _ _ _ _ _ _ _ _ _ _ _ _ _ from by rw [hX5]; exact HC.out.more ((Below.refl _ _).drew)
      have c5 : X5.cell? ⟨xb, 4, none⟩ = some (.int .i64 ((o + m : Nat) : Int)) := by rw [hX5]; exact c4
      have HF5 : Hid (X5.frozen? ⟨xb, 4, none⟩ = false) := show _ = _ from by rw [hX5]; exact HFZ.out
      clear VI VU VJ HSM hX5 c4 HFZ
      go_upto_region 15 with fail
      have HST : Hid (∀ wz, CM L Y.heap.size xb S4 col4 0 o m (.slice (some ⟨ug, 0, none⟩) dn uc) ds AJ w wz → CM L Y.heap.size xb S4 col4 0 o (m + 1) (.slice (some ⟨ug, 0, none⟩) dn uc) ds AJ w (wz.setCell ⟨xb, 4, none⟩ (.int .i64 ((o + (m + 1) : Nat) : Int)))) := fun wz hz => hz.step (by omega) HAX.out
      try rw [show ∀ a : Act, a.put none undef = a from fun _ => rfl]
      refine wp_region_mix (fun wz => wz.cell? ⟨xb, 4, none⟩ = some (.int .i64 ((o + m : Nat) : Int))) (fun i => i == 11) 11 (by kernel_rfl) rfl (by kernel_rfl) (by kernel_rfl) (by kernel_rfl) ?_
      refine withFrP (N := 104) rfl ?_
      intro f0 F0 hff
      have e0 : f0 0 = Value.pointer (some ⟨xb, 0, none⟩) := hff 0
      have e5 : f0 5 = Value.int .i64 1 := hff 5
      clear hff
      have HCC : (fun wz => wz.cell? ⟨xb, 4, none⟩ = some (.int .i64 ((o + m : Nat) : Int))) (({ X5 with drawn := X5.drawn + 1 } : World)) := c5
      refine lyp F0 rfl HCC rfl (by omega) (wanted_none rfl) (v := Value.pointer (some ⟨xb, 0, none⟩)) (fun wr hwr => by simp only [execOp, (F0.eval 0 (by omega)).trans (show _ = Value.pointer (some ⟨xb, 0, none⟩) from by simp [upd, e0, e5])]; first | rfl | simp [go_sem]) fun Fs1 => ?_
      refine lyp Fs1 rfl HCC rfl (by omega) (wanted_none rfl) (v := Value.int .i64 1) (fun wr hwr => by simp only [execOp, (Fs1.eval 5 (by omega)).trans (show _ = Value.int .i64 1 from by simp [upd, e0, e5])]; first | rfl | simp [go_sem]) fun Fs2 => ?_
      refine lyp Fs2 rfl HCC rfl (by omega) (wanted_none rfl) (v := Value.int .i64 0) (fun wr hwr => by simp only [execOp, (Fs2.eval 78 (by omega)).trans (show _ = Value.int .i64 1 from by simp [upd, e0, e5])]; simp [go_sem, Act.eval]; try rfl) fun Fs3 => ?_
      refine lyp Fs3 rfl HCC rfl (by omega) (wanted_none rfl) (v := Value.pointer (some ⟨xb, 0, none⟩)) (fun wr hwr => by simp only [execOp, (Fs3.eval 77 (by omega)).trans (show _ = Value.pointer (some ⟨xb, 0, none⟩) from by simp [upd, e0, e5])]; simp [go_sem]) fun Fs4 => ?_
      refine lyp Fs4 rfl HCC rfl (by omega) (wanted_none rfl) (v := Value.pointer (some ⟨xb, 4, none⟩)) (fun wr hwr => by simp only [execOp, (Fs4.eval 80 (by omega)).trans (show _ = Value.pointer (some ⟨xb, 0, none⟩) from by simp [upd, e0, e5])]; simp [go_sem]) fun Fs5 => ?_
      refine lyp Fs5 rfl HCC rfl (by omega) (wanted_none rfl) (v := Value.pointer (some ⟨xb, 4, none⟩)) (fun wr hwr => by simp only [execOp, (Fs5.eval 81 (by omega)).trans (show _ = Value.pointer (some ⟨xb, 4, none⟩) from by simp [upd, e0, e5]), (Fs5.eval 79 (by omega)).trans (show _ = Value.int .i64 0 from by simp [upd, e0, e5])]; simp [go_sem, Act.eval]) fun Fs6 => ?_
      refine lyp Fs6 rfl HCC rfl (by omega) (wanted_none rfl) (v := Value.int .i64 ((o + m : Nat) : Int)) (fun wr hwr => by simp only [execOp, (Fs6.eval 82 (by omega)).trans (show _ = Value.pointer (some ⟨xb, 4, none⟩) from by simp [upd, e0, e5])]; simp [go_sem, show wr.cell? _ = _ from hwr]) fun Fs7 => ?_
      refine lyp Fs7 rfl HCC rfl (by omega) (wanted_none rfl) (v := Value.int .i64 ((o + (m + 1) : Nat) : Int)) (fun wr hwr => by simp only [execOp, (Fs7.eval 83 (by omega)).trans (show _ = Value.int .i64 ((o + m : Nat) : Int) from by simp [upd, e0, e5])]; simp [go_sem, Act.eval]; rw [IntKind.wrap_i64]; omega) fun Fs8 => ?_
      refine lyp Fs8 rfl HCC rfl (by omega) (wanted_none rfl) (v := Value.pointer (some ⟨xb, 0, none⟩)) (fun wr hwr => by simp only [execOp, (Fs8.eval 77 (by omega)).trans (show _ = Value.pointer (some ⟨xb, 0, none⟩) from by simp [upd, e0, e5])]; simp [go_sem]) fun Fs9 => ?_
      refine lyp Fs9 rfl HCC rfl (by omega) (wanted_none rfl) (v := Value.pointer (some ⟨xb, 4, none⟩)) (fun wr hwr => by simp only [execOp, (Fs9.eval 85 (by omega)).trans (show _ = Value.pointer (some ⟨xb, 0, none⟩) from by simp [upd, e0, e5])]; simp [go_sem]) fun Fs10 => ?_
      refine lyp Fs10 rfl HCC rfl (by omega) (wanted_none rfl) (v := Value.pointer (some ⟨xb, 4, none⟩)) (fun wr hwr => by simp only [execOp, (Fs10.eval 86 (by omega)).trans (show _ = Value.pointer (some ⟨xb, 4, none⟩) from by simp [upd, e0, e5]), (Fs10.eval 79 (by omega)).trans (show _ = Value.int .i64 0 from by simp [upd, e0, e5])]; simp [go_sem, Act.eval]) fun Fs11 => ?_
      refine lst rfl HCC rfl (wanted_none rfl) (w1 := World.setCell ({ X5 with drawn := X5.drawn + 1 } : World) ⟨xb, 4, none⟩ (.int .i64 ((o + (m + 1) : Nat) : Int))) (by simp only [execOp, (Fs11.eval 87 (by omega)).trans (show _ = Value.pointer (some ⟨xb, 4, none⟩) from by simp [upd, e0, e5]), (Fs11.eval 84 (by omega)).trans (show _ = Value.int .i64 ((o + (m + 1) : Nat) : Int) from by simp [upd, e0, e5])]; simp [go_sem, c5, HF5.out]) ?_
      refine ⟨fun h => by omega, ?_⟩
      clear F0 Fs1 Fs2 Fs3 Fs4 Fs5 Fs6 Fs7 Fs8 Fs9 Fs10 Fs11 e0 e5 HCC
      simp only [Act.put, List.setIfInBounds_toArray, List.set_cons_succ, List.set_cons_zero]
      have HF : Hid (CM L Y.heap.size xb S4 col4 0 o (m + 1) (.slice (some ⟨ug, 0, none⟩) dn uc) ds AJ w (World.setCell ({ X5 with drawn := X5.drawn + 1 } : World) ⟨xb, 4, none⟩ (.int .i64 ((o + (m + 1) : Nat) : Int)))) := HST.out _ (HC5.out.more ((Below.refl _ _).drew))
      try go_wp2_with fail
      go_roundw
      case rel => exact ⟨m + 1, by omega, by go_num, HF.out⟩
      case measure => simp [intOf]; omega
    · obtain rfl : m = dn := by omega
      have VJ : ∀ wz, Below wr.heap.size wr wz → wz.cell? ⟨xb, 1, none⟩ = some (.pointer (some ⟨lj, 0, none⟩)) := fun wz hb => (hb.cell (p := ⟨xb, 1, none⟩) HC.out.ln.b.lt).trans (by rw [← HEJ.out.2]; exact HC.out.ln.b.cell 1)
      have VO : ∀ wz, Below wr.heap.size wr wz → wz.cell? ⟨xb, 4, none⟩ = some (.int .i64 ((o + m : Nat) : Int)) := fun wz hb => (hb.cell (p := ⟨xb, 4, none⟩) HC.out.ln.b.lt).trans c4
      have hmJ := (HC.out.ln.em 1 (by omega)).lm
      rw [Ln.outO_ne _ _ (by decide : (1 : Nat) ≠ 0), HEJ.out.1, HEJ.out.2] at hmJ
      have HNX : Hid (Calls Try.prog 11 #[.pointer (some ⟨lj, 0, none⟩)] wr.drew fun e w' => e = .returned (.int .i64 (((o + m : Nat) : Int) + 1)) ∧ w' = wr.drew) := (next_any wr.drew (hmJ.more ((Below.refl _ _).drew))).mono (by rintro e w' ⟨rfl, rfl⟩; rw [HNX0.out]; exact ⟨rfl, rfl⟩)
      have HF : Hid (LNM L xb ((S.endX 1 uv4 x4).outO 0 ((S.e 0).out + ds.length)) col4 wr.drew ∧ Chg (fun j => j = xb ∨ lown (S.e 1).lb (S.e 1).cb (S.e 1).mb (S.e 1).uv (S.e 1).x j) w wr.drew) := by
        have h1 := HC.out.more ((Below.refl _ _).drew)
        refine ⟨?_, by rw [← HAJ.out]; exact h1.ch⟩
        have h2 := h1.ln
        rw [HS4.out, HO.out, HDN.out] at h2
        exact h2
      clear hmJ
      go_upto_region 16 with fail
      rename_i K hK
      try rw [show ∀ a : Act, a.put none undef = a from fun _ => rfl]
      refine wp_region_mix (fun wz => Below wr.heap.size wr wz) (fun i => i == 6 || i == 99) 99 (by kernel_rfl) rfl (by kernel_rfl) (by kernel_rfl) (by kernel_rfl) ?_
      refine withFrP (N := 104) rfl ?_
      intro f0 F0 hff
      have e0 : f0 0 = Value.pointer (some ⟨xb, 0, none⟩) := hff 0
      have e5 : f0 5 = Value.int .i64 1 := hff 5
      clear hff
      have HCC : (fun wz => Below wr.heap.size wr wz) (({ wr with drawn := wr.drawn + 1 } : World)) := (Below.refl _ _).drew
      refine lyp F0 rfl HCC rfl (by omega) (wanted_none rfl) (v := Value.pointer (some ⟨xb, 0, none⟩)) (fun wr hwr => by simp only [execOp, (F0.eval 0 (by omega)).trans (show _ = Value.pointer (some ⟨xb, 0, none⟩) from by simp [upd, e0, e5])]; first | rfl | simp [go_sem]) fun Ft1 => ?_
      refine lyp Ft1 rfl HCC rfl (by omega) (wanted_none rfl) (v := Value.int .i64 1) (fun wr hwr => by simp only [execOp, (Ft1.eval 5 (by omega)).trans (show _ = Value.int .i64 1 from by simp [upd, e0, e5])]; first | rfl | simp [go_sem]) fun Ft2 => ?_
      refine lyp Ft2 rfl HCC rfl (by omega) (wanted_none rfl) (v := Value.pointer (some ⟨xb, 0, none⟩)) (fun wr hwr => by simp only [execOp, (Ft2.eval 88 (by omega)).trans (show _ = Value.pointer (some ⟨xb, 0, none⟩) from by simp [upd, e0, e5])]; simp [go_sem]) fun Ft3 => ?_
      refine lyp Ft3 rfl HCC rfl (by omega) (wanted_none rfl) (v := Value.pointer (some ⟨xb, 0, none⟩)) (fun wr hwr => by simp only [execOp, (Ft3.eval 90 (by omega)).trans (show _ = Value.pointer (some ⟨xb, 0, none⟩) from by simp [upd, e0, e5])]; simp [go_sem]) fun Ft4 => ?_
      refine lyp Ft4 rfl HCC rfl (by omega) (wanted_none rfl) (v := Value.pointer (some ⟨xb, 1, none⟩)) (fun wr hwr => by simp only [execOp, (Ft4.eval 91 (by omega)).trans (show _ = Value.pointer (some ⟨xb, 0, none⟩) from by simp [upd, e0, e5]), (Ft4.eval 89 (by omega)).trans (show _ = Value.int .i64 1 from by simp [upd, e0, e5])]; simp [go_sem, Act.eval]) fun Ft5 => ?_
      refine lyp Ft5 rfl HCC rfl (by omega) (wanted_none rfl) (v := Value.pointer (some ⟨lj, 0, none⟩)) (fun wr hwr => by simp only [execOp, (Ft5.eval 92 (by omega)).trans (show _ = Value.pointer (some ⟨xb, 1, none⟩) from by simp [upd, e0, e5])]; simp [go_sem, VJ wr hwr]) fun Ft6 => ?_
      refine lcp Ft6 rfl HCC rfl (by omega) (wanted_none rfl) (g := 11) (args := #[Value.pointer (some ⟨lj, 0, none⟩)]) (by simp only [execOp, resolve, invoke, List.map_toArray, List.map_cons, List.map_nil, (Ft6.eval 93 (by omega)).trans (show _ = Value.pointer (some ⟨lj, 0, none⟩) from by simp [upd, e0, e5])]; simp [go_sem, Act.eval]) HNX.out ?_
      rintro e w2 ⟨rfl, rfl⟩
      refine ⟨_, rfl, fun Ft7 => ?_⟩
      refine lyp Ft7 rfl HCC rfl (by omega) (wanted_none rfl) (v := Value.pointer (some ⟨xb, 0, none⟩)) (fun wr hwr => by simp only [execOp, (Ft7.eval 0 (by omega)).trans (show _ = Value.pointer (some ⟨xb, 0, none⟩) from by simp [upd, e0, e5])]; first | rfl | simp [go_sem]) fun Ft8 => ?_
      refine lyp Ft8 rfl HCC rfl (by omega) (wanted_none rfl) (v := Value.int .i64 1) (fun wr hwr => by simp only [execOp, (Ft8.eval 5 (by omega)).trans (show _ = Value.int .i64 1 from by simp [upd, e0, e5])]; first | rfl | simp [go_sem]) fun Ft9 => ?_
      refine lyp Ft9 rfl HCC rfl (by omega) (wanted_none rfl) (v := Value.int .i64 0) (fun wr hwr => by simp only [execOp, (Ft9.eval 96 (by omega)).trans (show _ = Value.int .i64 1 from by simp [upd, e0, e5])]; simp [go_sem, Act.eval]; try rfl) fun Ft10 => ?_
      refine lyp Ft10 rfl HCC rfl (by omega) (wanted_none rfl) (v := Value.pointer (some ⟨xb, 0, none⟩)) (fun wr hwr => by simp only [execOp, (Ft10.eval 95 (by omega)).trans (show _ = Value.pointer (some ⟨xb, 0, none⟩) from by simp [upd, e0, e5])]; simp [go_sem]) fun Ft11 => ?_
      refine lyp Ft11 rfl HCC rfl (by omega) (wanted_none rfl) (v := Value.pointer (some ⟨xb, 4, none⟩)) (fun wr hwr => by simp only [execOp, (Ft11.eval 98 (by omega)).trans (show _ = Value.pointer (some ⟨xb, 0, none⟩) from by simp [upd, e0, e5])]; simp [go_sem]) fun Ft12 => ?_
      refine lyp Ft12 rfl HCC rfl (by omega) (wanted_none rfl) (v := Value.pointer (some ⟨xb, 4, none⟩)) (fun wr hwr => by simp only [execOp, (Ft12.eval 99 (by omega)).trans (show _ = Value.pointer (some ⟨xb, 4, none⟩) from by simp [upd, e0, e5]), (Ft12.eval 97 (by omega)).trans (show _ = Value.int .i64 0 from by simp [upd, e0, e5])]; simp [go_sem, Act.eval]) fun Ft13 => ?_
      refine lyp Ft13 rfl HCC rfl (by omega) (wanted_none rfl) (v := Value.int .i64 ((o + m : Nat) : Int)) (fun wr hwr => by simp only [execOp, (Ft13.eval 100 (by omega)).trans (show _ = Value.pointer (some ⟨xb, 4, none⟩) from by simp [upd, e0, e5])]; simp [go_sem, VO wr hwr]) fun Ft14 => ?_
      refine lyp Ft14 rfl HCC rfl (by omega) (wanted_none rfl) (v := Value.int .i64 (((o + m : Nat) : Int) + 1)) (fun wr hwr => by simp only [execOp, (Ft14.eval 101 (by omega)).trans (show _ = Value.int .i64 ((o + m : Nat) : Int) from by simp [upd, e0, e5])]; simp [go_sem, Act.eval]; rw [IntKind.wrap_i64]; omega) fun Ft15 => ?_
      refine lyp Ft15 rfl HCC rfl (by omega) (wanted_none rfl) (v := Value.bool true) (fun wr hwr => by simp only [execOp, (Ft15.eval 94 (by omega)).trans (show _ = Value.int .i64 (((o + m : Nat) : Int) + 1) from by simp [upd, e0, e5]), (Ft15.eval 102 (by omega)).trans (show _ = Value.int .i64 (((o + m : Nat) : Int) + 1) from by simp [upd, e0, e5])]; simp [go_sem, Act.eval]) fun Ft16 => ?_
      refine lyp Ft16 rfl HCC rfl (by omega) (wanted_none rfl) (v := Value.bool true) (fun wr hwr => by simp only [execOp, (Ft16.eval 103 (by omega)).trans (show _ = Value.bool true from by simp [upd, e0, e5])]; first | rfl | simp [go_sem]) fun Ft17 => ?_
      refine ⟨fun _ => HCC, ?_⟩
      refine hK _ _ ?_
      clear F0 Ft1 Ft2 Ft3 Ft4 Ft5 Ft6 Ft7 Ft8 Ft9 Ft10 Ft11 Ft12 Ft13 Ft14 Ft15 Ft16 Ft17 e0 e5 HCC
      simp only [Act.put, List.setIfInBounds_toArray, List.set_cons_succ, List.set_cons_zero]
      go_wp2_with fail
      go_ret
      exact ⟨rfl, uv4, ds, x4, col4, HTE.out, HF.out.1, HF.out.2, HCL.out⟩
set_option maxRecDepth 100000 in
set_option maxHeartbeats 6400000 in
theorem comes_1 {L xb nn t : Nat} {S : Ln} {col : Nat → Nat} {win : Nat → Nat} (q k : Int) (v : Value) (s : List UInt8) (w : World) (h : LNM L xb S col w) (hI : LInv S win nn t) (ht : t ≤ 400) (hv : By w v s) (hsl : s.length ≤ 4000) (hs : SegOk ((S.e 1).inn.map Dv.s) ((S.e 1).inn.length - (S.e 1).x.box.length) (S.e 0).out q k s) :
    Calls Try.prog 33 #[.pointer (some ⟨xb, 0, none⟩), .agg #[.int .i64 5, .int .i64 3, .int .i64 q, .int .i64 k, v]] w fun e w' => e = .returned (.bool true) ∧ ∃ uv' ds x' col', TakeEq (S.e 0).x q k s ds x' ∧ LNM L xb ((S.endX 0 uv' x').outO 1 ((S.e 1).out + ds.length)) col' w' ∧ Chg (fun j => j = xb ∨ lown (S.e 0).lb (S.e 0).cb (S.e 0).mb (S.e 0).uv (S.e 0).x j) w w' ∧ ∀ k, k < w.heap.size → col' k = col k := by
  obtain ⟨vo, n, vc, hvv, hn, _⟩ := id hv
  subst hvv
  obtain ⟨X, hX⟩ : ∃ X, X = w.alloc (.cells #[.int .i64 5, .int .i64 3, .int .i64 q, .int .i64 k, .slice vo n vc] 45) := ⟨_, rfl⟩
  obtain ⟨bx, hbx⟩ : ∃ bx, bx = w.heap.size := ⟨_, rfl⟩
  have hbX : Below w.heap.size w X := by rw [hX]; exact (Below.refl _ _).alloc (Nat.le_refl _) _
  have hBX : Blk X bx #[.int .i64 5, .int .i64 3, .int .i64 q, .int .i64 k, .slice vo n vc] 45 := by rw [hX, hbx]; exact heap_alloc_new w _
  have hn4 : n ≤ 4000 := by omega
  have HNE : Hid (s.length = n) := hn
  have HH : Hid (LNM L xb S col w) := h
  have HI : Hid (LInv S win nn t) := hI
  have HSG : Hid (SegOk ((S.e 1).inn.map Dv.s) ((S.e 1).inn.length - (S.e 1).x.box.length) (S.e 0).out q k s) := hs
  have HBX : Hid (Blk X bx #[.int .i64 5, .int .i64 3, .int .i64 q, .int .i64 k, .slice vo n vc] 45) := hBX
  have HbX : Hid (Below w.heap.size w X) := hbX
  have HES : Hid (bx = w.heap.size) := hbx
  have HLD : Hid _ := lend_any X (hv.keep hbX) hsl
  have b1 : X.cell? ⟨bx, 1, none⟩ = some (.int .i64 3) := hBX.cell 1
  have b4 : X.cell? ⟨bx, 4, none⟩ = some (.slice vo n vc) := hBX.cell 4
  clear h hI hs hbX hBX hv hn hsl
  go_enter Try.func33, Try.ntmps33
  go_upto_region 1 with fail
  rw [← hX, ← hbx]
  clear hX hbx
  go_wp2_with fail
  refine Calls.mono HLD.out ?_
  rintro e w2 ⟨v2, rfl, hr2, hb2⟩
  obtain ⟨c2, g2, hv2, hc2, hc2m, hg2, hg2l, hro2⟩ := lent_row hr2
  rw [HNE.out] at hv2 hc2 hro2
  subst hv2
  unfold maxLen at hc2m
  have hB2 : Blk w2 bx #[.int .i64 5, .int .i64 3, .int .i64 q, .int .i64 k, .slice vo n vc] 45 := Blk.below HBX.out hb2 HBX.out.lt
  have d4 : w2.cell? ⟨bx, 4, none⟩ = some (.slice vo n vc) := hB2.cell 4
  have f4 : w2.frozen? ⟨bx, 4, none⟩ = false := hB2.frozen 4
  obtain ⟨Y, hY⟩ : ∃ Y, Y = w2.setCell ⟨bx, 4, none⟩ (.slice (some ⟨g2, 0, none⟩) n c2) := ⟨_, rfl⟩
  have hBY : Blk Y bx #[.int .i64 5, .int .i64 3, .int .i64 q, .int .i64 k, .slice (some ⟨g2, 0, none⟩) n c2] 45 := by rw [hY]; exact hB2.set 4 _
  have hcY : Chg (fun k => k = bx) w2 Y := by rw [hY]; exact setCell_chg _ _ _ _
  have hb02 : Below w.heap.size w w2 := HbX.out.trans (hb2.mono HbX.out.size)
  have hbY : Below w.heap.size w Y := hb02.trans (hcY.below hb02.size (fun k hk => by rw [hk, HES.out]; exact Nat.le_refl _))
  have hXs : bx < X.heap.size := HBX.out.lt
  have hroY : Y.ownsRow X.heap.size 5 1 (.slice (some ⟨g2, 0, none⟩) n c2) s.length (s.map B) := by
    rw [HNE.out]
    exact ownsRow_same hro2 (fun g e => hcY.block g (ownsRow_lt hro2 e).2 (fun q => by have := (ownsRow_lt hro2 e).1; omega))
  have hLY := HH.out.more hbY
  have HCY : Hid (Blk Y bx #[.int .i64 5, .int .i64 3, .int .i64 q, .int .i64 k, .slice (some ⟨g2, 0, none⟩) n c2] 45 ∧ Y.cell? ⟨xb, 0, none⟩ = some (.pointer (some ⟨(S.e 0).lb, 0, none⟩))) := ⟨hBY, hLY.b.cell 0⟩
  have hei := HI.out.ei 0 (by omega)
  obtain ⟨a, ha⟩ : ∃ a, Dir (S.e 1).x (S.e 0).x ((S.e 1).inn.map Dv.s) (S.e 1).out a := HI.out.d 1 (by omega)
  obtain ⟨b, hb⟩ : ∃ a, Dir (S.e 0).x (S.e 1).x ((S.e 0).inn.map Dv.s) (S.e 0).out a := HI.out.d 0 (by omega)
  have hla := ha.len
  have hlb := hb.len
  rw [List.length_map] at hla hlb
  have hta := (HI.out.ei 1 (by omega)).ts
  have htb := hei.ts
  have hwJ := HI.out.wn 0 (by omega)
  have hfe := ha.few
  have hSS := HSG.out
  have hTK := take_any (L := L) (lb := (S.e 0).lb) (cb := (S.e 0).cb) (mb := (S.e 0).mb) (uv := (S.e 0).uv) (x := (S.e 0).x) q k Y.drew ((hLY.em 0 (by omega)).lm.more ((Below.refl _ _).drew)) (by rw [hb.ack]; omega) (by omega) (by have := ha.nx; have := ha.go; omega) (by rw [hei.wi]; omega) (by have := hei.wi; omega) (by have := hSS.2.2; omega) (by have h7 := hb.go; have h8 := hb.ack; have := hSS.2.1; have := hSS.1; omega) (fun e => by rw [hSS.2.2.2.2.1 e]; rfl) (show By Y.drew (.slice (some ⟨g2, 0, none⟩) n c2) s from own_by (hroY)) (fun k e hk => by
    have h1 := ((HH.out.em 0 (by omega)).lm.lt hk).2
    have e' : g2 = k := Option.some.inj e
    have := HbX.out.size
    omega) (by rw [HNE.out]; exact hn4)
  rw [hei.pe, hei.me] at hTK
  have HTK : Hid (Calls Try.prog 26 #[.pointer (some ⟨(S.e 0).lb, 0, none⟩), .agg #[.int .i64 5, .int .i64 3, .int .i64 q, .int .i64 k, .slice (some ⟨g2, 0, none⟩) n c2]] Y.drew _) := hTK
  have HC4F : Hid (∀ w4, Chg (lown (S.e 0).lb (S.e 0).cb (S.e 0).mb (S.e 0).uv (S.e 0).x) Y.drew w4 → Blk w4 bx #[.int .i64 5, .int .i64 3, .int .i64 q, .int .i64 k, .slice (some ⟨g2, 0, none⟩) n c2] 45 ∧ w4.cell? ⟨xb, 0, none⟩ = some (.pointer (some ⟨(S.e 0).lb, 0, none⟩))) := fun w4 hc => ⟨hc.blk hBY (fun hk => by
      have h1 := ((HH.out.em 0 (by omega)).lm.lt hk).2
      have := HES.out
      omega), (hc.blk (show Blk Y.drew xb (lnbox S) 60 from hLY.b) (fun hk => (hLY.ne_xb (i := 0) (by omega) (.inl hk)) rfl)).cell 0⟩
  have HLY : Hid (LNM L xb S col Y) := hLY
  have HbY : Hid (Below w.heap.size w Y) := hbY
  have HEY : Hid (Y = w2.setCell ⟨bx, 4, none⟩ (.slice (some ⟨g2, 0, none⟩) n c2)) := hY
  obtain ⟨lj, hlj⟩ : ∃ lj, lj = (S.e 0).lb := ⟨_, rfl⟩
  have HLJ : Hid (lj = (S.e 0).lb) := hlj
  rw [← hlj] at HTK HCY HC4F
  clear hr2 hb2 hro2 hB2 hBY hcY hb02 hbY hroY hLY hei ha hb hla hlb hta htb hwJ hfe hSS hTK hY hlj HLD b1 b4 hg2 hg2l hXs
  go_upto_region 6 with fail
  rw [← HEY.out]
  clear HEY d4 f4
  rename_i K hK
  try rw [show ∀ a : Act, a.put none undef = a from fun _ => rfl]
  refine wp_region_mix (fun wz => Blk wz bx #[.int .i64 5, .int .i64 3, .int .i64 q, .int .i64 k, .slice (some ⟨g2, 0, none⟩) n c2] 45 ∧ wz.cell? ⟨xb, 0, none⟩ = some (.pointer (some ⟨lj, 0, none⟩))) (fun i => i == 7 || i == 99) 99 (by kernel_rfl) rfl (by kernel_rfl) (by kernel_rfl) (by kernel_rfl) ?_
  refine withFrP (N := 104) rfl ?_
  intro f0 F0 hff
  have e0 : f0 0 = Value.pointer (some ⟨xb, 0, none⟩) := hff 0
  have e3 : f0 3 = Value.pointer (some ⟨bx, 0, none⟩) := hff 3
  have e5 : f0 5 = Value.int .i64 0 := hff 5
  clear hff
  have HCC : (fun wz => Blk wz bx #[.int .i64 5, .int .i64 3, .int .i64 q, .int .i64 k, .slice (some ⟨g2, 0, none⟩) n c2] 45 ∧ wz.cell? ⟨xb, 0, none⟩ = some (.pointer (some ⟨lj, 0, none⟩))) (({ Y with drawn := Y.drawn + 1 } : World)) := HCY.out
  refine lyp F0 rfl HCC rfl (by omega) (wanted_none rfl) (v := Value.pointer (some ⟨xb, 0, none⟩)) (fun wr hwr => by simp only [execOp, (F0.eval 0 (by omega)).trans (show _ = Value.pointer (some ⟨xb, 0, none⟩) from by simp [upd, e0, e3, e5])]; first | rfl | simp [go_sem]) fun Fp1 => ?_
  refine lyp Fp1 rfl HCC rfl (by omega) (wanted_none rfl) (v := Value.int .i64 0) (fun wr hwr => by simp only [execOp, (Fp1.eval 5 (by omega)).trans (show _ = Value.int .i64 0 from by simp [upd, e0, e3, e5])]; first | rfl | simp [go_sem]) fun Fp2 => ?_
  refine lyp Fp2 rfl HCC rfl (by omega) (wanted_none rfl) (v := Value.pointer (some ⟨xb, 0, none⟩)) (fun wr hwr => by simp only [execOp, (Fp2.eval 24 (by omega)).trans (show _ = Value.pointer (some ⟨xb, 0, none⟩) from by simp [upd, e0, e3, e5])]; simp [go_sem]) fun Fp3 => ?_
  refine lyp Fp3 rfl HCC rfl (by omega) (wanted_none rfl) (v := Value.pointer (some ⟨xb, 0, none⟩)) (fun wr hwr => by simp only [execOp, (Fp3.eval 26 (by omega)).trans (show _ = Value.pointer (some ⟨xb, 0, none⟩) from by simp [upd, e0, e3, e5])]; simp [go_sem]) fun Fp4 => ?_
  refine lyp Fp4 rfl HCC rfl (by omega) (wanted_none rfl) (v := Value.pointer (some ⟨xb, 0, none⟩)) (fun wr hwr => by simp only [execOp, (Fp4.eval 27 (by omega)).trans (show _ = Value.pointer (some ⟨xb, 0, none⟩) from by simp [upd, e0, e3, e5]), (Fp4.eval 25 (by omega)).trans (show _ = Value.int .i64 0 from by simp [upd, e0, e3, e5])]; simp [go_sem, Act.eval]) fun Fp5 => ?_
  refine lyp Fp5 rfl HCC rfl (by omega) (wanted_none rfl) (v := Value.pointer (some ⟨lj, 0, none⟩)) (fun wr hwr => by simp only [execOp, (Fp5.eval 28 (by omega)).trans (show _ = Value.pointer (some ⟨xb, 0, none⟩) from by simp [upd, e0, e3, e5])]; simp [go_sem, hwr.2]) fun Fp6 => ?_
  refine lyp Fp6 rfl HCC rfl (by omega) (wanted_none rfl) (v := Value.agg #[.int .i64 5, .int .i64 3, .int .i64 q, .int .i64 k, .slice (some ⟨g2, 0, none⟩) n c2]) (fun wr hwr => by simp only [execOp, (Fp6.eval 3 (by omega)).trans (show _ = Value.pointer (some ⟨bx, 0, none⟩) from by simp [upd, e0, e3, e5])]; simp only [Sem.run_bind, Sem.run_pure, Result.andThen_ok, load5 hwr.1]; try rfl) fun Fp7 => ?_
  refine lcp Fp7 rfl HCC rfl (by omega) (wanted_none rfl) (g := 26) (args := #[Value.pointer (some ⟨lj, 0, none⟩), Value.agg #[.int .i64 5, .int .i64 3, .int .i64 q, .int .i64 k, .slice (some ⟨g2, 0, none⟩) n c2]]) (by simp only [execOp, resolve, invoke, List.map_toArray, List.map_cons, List.map_nil, (Fp7.eval 29 (by omega)).trans (show _ = Value.pointer (some ⟨lj, 0, none⟩) from by simp [upd, e0, e3, e5]), (Fp7.eval 30 (by omega)).trans (show _ = Value.agg #[.int .i64 5, .int .i64 3, .int .i64 q, .int .i64 k, .slice (some ⟨g2, 0, none⟩) n c2] from by simp [upd, e0, e3, e5])]; simp [go_sem, Act.eval]) HTK.out ?_
  rintro e w4 ⟨v4, uv4, ds, x4, rfl, hTG⟩
  refine ⟨_, rfl, fun Fp8 => ?_⟩
  have HC4 : (fun wz => Blk wz bx #[.int .i64 5, .int .i64 3, .int .i64 q, .int .i64 k, .slice (some ⟨g2, 0, none⟩) n c2] 45 ∧ wz.cell? ⟨xb, 0, none⟩ = some (.pointer (some ⟨lj, 0, none⟩))) w4 := HC4F.out w4 hTG.st.1
  refine lyp Fp8 rfl HC4 rfl (by omega) (wanted_none rfl) (v := Value.tuple #[v4, Value.int .i64 0]) (fun wr hwr => by simp only [execOp, (Fp8.eval 31 (by omega)).trans (show _ = Value.tuple #[v4, Value.int .i64 0] from by simp [upd, e0, e3, e5])]; first | rfl | simp [go_sem]) fun Fp9 => ?_
  refine lyp Fp9 rfl HC4 rfl (by omega) (wanted_none rfl) (v := v4) (fun wr hwr => by simp only [execOp, (Fp9.eval 23 (by omega)).trans (show _ = Value.tuple #[v4, Value.int .i64 0] from by simp [upd, e0, e3, e5])]; simp [go_sem]) fun Fp10 => ?_
  refine lyp Fp10 rfl HC4 rfl (by omega) (wanted_none rfl) (v := Value.int .i64 0) (fun wr hwr => by simp only [execOp, (Fp10.eval 23 (by omega)).trans (show _ = Value.tuple #[v4, Value.int .i64 0] from by simp [upd, e0, e3, e5])]; simp [go_sem]) fun Fp11 => ?_
  refine lyp Fp11 rfl HC4 rfl (by omega) (wanted_none rfl) (v := v4) (fun wr hwr => by simp only [execOp, (Fp11.eval 32 (by omega)).trans (show _ = v4 from by simp [upd, e0, e3, e5])]; first | rfl | simp [go_sem]) fun Fp12 => ?_
  refine lyp Fp12 rfl HC4 rfl (by omega) (wanted_none rfl) (v := Value.int .i64 0) (fun wr hwr => by simp only [execOp, (Fp12.eval 33 (by omega)).trans (show _ = Value.int .i64 0 from by simp [upd, e0, e3, e5])]; first | rfl | simp [go_sem]) fun Fp13 => ?_
  refine ⟨fun _ => HC4, ?_⟩
  refine hK _ _ ?_
  clear F0 Fp1 Fp2 Fp3 Fp4 Fp5 Fp6 Fp7 Fp8 Fp9 Fp10 Fp11 Fp12 Fp13 e0 e3 e5 HCC HC4
  simp only [Act.put, List.setIfInBounds_toArray, List.set_cons_succ, List.set_cons_zero]
  have HDR : Hid (LNM L xb S col Y.drew) := HLY.out.more ((Below.refl _ _).drew)
  have HbD : Hid (Below w.heap.size w Y.drew) := HbY.out.drew
  rw [HLJ.out] at hTG
  obtain ⟨col4, hL4, hcol4⟩ := HDR.out.endStep (i := 0) (by omega) hTG.lm hTG.st
  have hteq : TakeEq (S.e 0).x q k s ds x4 := hTG.eq
  have hinv := HI.out.takes (i := 1) (by omega) uv4 HSG.out hteq
  obtain ⟨o, ho⟩ : ∃ o, o = (S.e 1).out := ⟨_, rfl⟩
  obtain ⟨dn, hdn⟩ : ∃ dn, dn = ds.length := ⟨_, rfl⟩
  have HDN : Hid (dn = ds.length) := hdn
  have HO : Hid (o = (S.e 1).out) := ho
  obtain ⟨S4, hS4⟩ : ∃ S4, S4 = S.endX 0 uv4 x4 := ⟨_, rfl⟩
  rw [← hS4] at hL4
  have HAT : Hid (∀ m d, ds[m]? = some d → ((S.e 1).inn.map Dv.s)[o + m]? = some d.s) := by rw [ho]; exact hinv.2.1
  have hol : o + dn ≤ (S.e 1).inn.length := by rw [ho, hdn]; exact hinv.2.2.1
  have HNX0 : Hid (x4.next = ((o + dn : Nat) : Int) + 1) := by rw [ho, hdn]; exact hinv.2.2.2
  have HTE : Hid (TakeEq (S.e 0).x q k s ds x4) := hteq
  have hts := (HI.out.ei 1 (by omega)).ts
  have HS4 : Hid (S4 = S.endX 0 uv4 x4) := hS4
  have eI : S4.e 1 = S.e 1 := by rw [hS4]; exact Ln.endX_ne _ _ _ (by decide)
  have eJ : (S4.e 0).x = x4 ∧ (S4.e 0).lb = lj := by rw [hS4, Ln.endX_same]; exact ⟨rfl, HLJ.out.symm⟩
  have HEI : Hid (S4.e 1 = S.e 1) := eI
  have HEJ : Hid ((S4.e 0).x = x4 ∧ (S4.e 0).lb = lj) := eJ
  obtain ⟨uo, uc, hv4, _⟩ := own_slice hTG.r
  rw [← hdn] at hv4
  obtain ⟨AJ, hAJ⟩ : ∃ AJ : Nat → Prop, AJ = fun j => j = xb ∨ lown (S.e 0).lb (S.e 0).cb (S.e 0).mb (S.e 0).uv (S.e 0).x j := ⟨_, rfl⟩
  have HAJ : Hid (AJ = fun j => j = xb ∨ lown (S.e 0).lb (S.e 0).cb (S.e 0).mb (S.e 0).uv (S.e 0).x j) := hAJ
  have HAX : Hid (AJ xb) := show AJ xb from by rw [hAJ]; exact Or.inl rfl
  have hCM : CM L Y.heap.size xb S4 col4 1 o 0 v4 ds AJ w w4 := by
    refine ⟨?_, hTG.r, hTG.dt, ?_⟩
    · rw [Nat.add_zero, ho, ← eI, Ln.outO_self]
      exact hL4
    · rw [hAJ]
      exact (Chg.ofBelow _ HbD.out).trans (hTG.st.1.mono (fun j _ e => Or.inr e)) (fun _ _ e => e)
  have HCM : Hid (CM L Y.heap.size xb S4 col4 1 o 0 v4 ds AJ w w4) := hCM
  have HCL : Hid (∀ k, k < w.heap.size → col4 k = col k) := fun k hk => hcol4 k (Nat.lt_of_lt_of_le hk HbD.out.size)
  obtain ⟨il, hil⟩ : ∃ il, il = (S.e 1).inn.length := ⟨_, rfl⟩
  rw [← hil] at hol hts
  have HIL : Hid (il = (S.e 1).inn.length) := hil
  subst hv4
  clear hAJ hTG hL4 hcol4 hteq hinv ho hdn hS4 eI eJ hCM hil HTK HC4F HCY HDR HbD HLY HbY HBX HbX
  go_wp2_with fail
  go_loopw [9, 10] (fun s9 _ wr => ∃ m : Nat, m ≤ dn ∧ s9 = .int .i64 (m : Int) ∧ CM L Y.heap.size xb S4 col4 1 o m (.slice uo dn uc) ds AJ w wr) (fun s9 _ _ => dn - (intOf s9).toNat)
  case atStart => exact ⟨0, by omega, rfl, HCM.out⟩
  case round =>
    obtain ⟨m, hm, rfl, hC⟩ := hrel
    have HC : Hid (CM L Y.heap.size xb S4 col4 1 o m (.slice uo dn uc) ds AJ w wr) := hC
    have c4 : wr.cell? ⟨xb, 5, none⟩ = some (.int .i64 ((o + m : Nat) : Int)) := by
      have := hC.ln.b.cell 5
      exact this.trans (by rfl)
    clear hC HCM
    by_cases hml : m < dn
    · obtain ⟨d, hd⟩ : ∃ d, ds[m]? = some d := ⟨ds[m]'(by rw [← HDN.out]; exact hml), List.getElem?_eq_getElem _⟩
      have hoi : o + m < il := by omega
      have hoi' : o + m < (S.e 1).inn.length := by rw [← HIL.out]; exact hoi
      obtain ⟨di, hdi⟩ : ∃ di, (S.e 1).inn[o + m]? = some di := ⟨(S.e 1).inn[o + m], List.getElem?_eq_getElem _⟩
      have hds : di.s = d.s := by
        have h1 := HAT.out m d hd
        rw [List.getElem?_map, hdi] at h1
        exact Option.some.inj h1
      obtain ⟨uo', uc', huv, _, _, hrd⟩ := own_read HC.out.r
      obtain ⟨ug, hug, _, hugl, hucl⟩ := hrd (by rw [← HDN.out]; omega)
      have euo := (Value.slice.inj huv).1
      rw [hug] at euo
      have hem := HC.out.ln.em 1 (by omega)
      have eE : ((S4.outO 1 (o + m)).e 1).iv = (S.e 1).iv ∧ ((S4.outO 1 (o + m)).e 1).inn = (S.e 1).inn := by rw [Ln.outO_same, HEI.out]; exact ⟨rfl, rfl⟩
      have hir := hem.ir
      have hid := hem.id
      rw [eE.1, eE.2] at hir
      rw [eE.2] at hid
      obtain ⟨io, ic, hiv, _, _, hird⟩ := own_read hir
      obtain ⟨ig, hig, _, higl, hicl⟩ := hird (by omega)
      rw [hig, ← HIL.out] at hiv
      have hc2 : wr.cell? ⟨xb, 3, none⟩ = some (.slice (some ⟨ig, 0, none⟩) il ic) := by
        rw [← hiv, ← eE.1]
        exact HC.out.ln.b.cell 3
      have hxl := HC.out.ln.b.lt
      have VI : ∀ wz, Below wr.heap.size wr wz → wz.cell? ⟨xb, 3, none⟩ = some (.slice (some ⟨ig, 0, none⟩) il ic) := fun wz hb => (hb.cell (p := ⟨xb, 3, none⟩) hxl).trans hc2
      have VU : ∀ wz, Below wr.heap.size wr wz → wz.cell? ⟨ug, m, none⟩ = some d.v := fun wz hb => (hb.cell (p := ⟨ug, m, none⟩) hugl).trans (hucl m d.v (by rw [List.getElem?_map, hd]; rfl))
      have VJ : ∀ wz, Below wr.heap.size wr wz → wz.cell? ⟨ig, o + m, none⟩ = some di.v := fun wz hb => (hb.cell (p := ⟨ig, o + m, none⟩) higl).trans (hicl (o + m) di.v (by rw [List.getElem?_map, hdi]; rfl))
      have HSM : Hid (Calls Try.prog 20 #[d.v, di.v] wr.drew fun e w' => e = .returned (.bool true) ∧ w' = wr.drew) := (same_any wr.drew (own_by (HC.out.dt d (List.mem_of_getElem? hd))) (show By wr.drew di.v d.s from by rw [← hds]; exact own_by (hid di (List.mem_of_getElem? hdi)))).mono (by rintro e w' ⟨rfl, rfl⟩; simp)
      have hfz : wr.frozen? ⟨xb, 5, none⟩ = false := HC.out.ln.b.frozen 5
      have HFZ : Hid (wr.frozen? ⟨xb, 5, none⟩ = false) := hfz
      clear hd hoi' hdi hds huv hrd hug hucl hem eE hir hid hiv hird hig hicl hc2 hfz
      subst euo
      go_upto_region 13 with fail
      rename_i K hK
      try rw [show ∀ a : Act, a.put none undef = a from fun _ => rfl]
      refine wp_region_mix (fun wz => Below wr.heap.size wr wz) (fun i => i == 25 || i == 99) 99 (by kernel_rfl) rfl (by kernel_rfl) (by kernel_rfl) (by kernel_rfl) ?_
      refine withFrP (N := 104) rfl ?_
      intro f0 F0 hff
      have e0 : f0 0 = Value.pointer (some ⟨xb, 0, none⟩) := hff 0
      have e5 : f0 5 = Value.int .i64 0 := hff 5
      have e7 : f0 7 = Value.slice (some ⟨ug, 0, none⟩) dn uc := hff 7
      have e9 : f0 9 = Value.int .i64 (m : Int) := hff 9
      have e10 : f0 10 = Value.int .i64 ((o + m : Nat) : Int) := hff 10
      clear hff
      have HCC : (fun wz => Below wr.heap.size wr wz) (({ wr with drawn := wr.drawn + 1 } : World)) := (Below.refl _ _).drew
      refine lyp F0 rfl HCC rfl (by omega) (wanted_none rfl) (v := Value.int .i64 ((o + m : Nat) : Int)) (fun wr hwr => by simp only [execOp, (F0.eval 10 (by omega)).trans (show _ = Value.int .i64 ((o + m : Nat) : Int) from by simp [upd, e0, e5, e7, e9, e10])]; first | rfl | simp [go_sem]) fun Fr1 => ?_
      refine lyp Fr1 rfl HCC rfl (by omega) (wanted_none rfl) (v := Value.pointer (some ⟨xb, 0, none⟩)) (fun wr hwr => by simp only [execOp, (Fr1.eval 0 (by omega)).trans (show _ = Value.pointer (some ⟨xb, 0, none⟩) from by simp [upd, e0, e5, e7, e9, e10])]; first | rfl | simp [go_sem]) fun Fr2 => ?_
      refine lyp Fr2 rfl HCC rfl (by omega) (wanted_none rfl) (v := Value.int .i64 0) (fun wr hwr => by simp only [execOp, (Fr2.eval 5 (by omega)).trans (show _ = Value.int .i64 0 from by simp [upd, e0, e5, e7, e9, e10])]; first | rfl | simp [go_sem]) fun Fr3 => ?_
      refine lyp Fr3 rfl HCC rfl (by omega) (wanted_none rfl) (v := Value.int .i64 1) (fun wr hwr => by simp only [execOp, (Fr3.eval 51 (by omega)).trans (show _ = Value.int .i64 0 from by simp [upd, e0, e5, e7, e9, e10])]; simp [go_sem, Act.eval]; try rfl) fun Fr4 => ?_
      refine lyp Fr4 rfl HCC rfl (by omega) (wanted_none rfl) (v := Value.pointer (some ⟨xb, 0, none⟩)) (fun wr hwr => by simp only [execOp, (Fr4.eval 50 (by omega)).trans (show _ = Value.pointer (some ⟨xb, 0, none⟩) from by simp [upd, e0, e5, e7, e9, e10])]; simp [go_sem]) fun Fr5 => ?_
      refine lyp Fr5 rfl HCC rfl (by omega) (wanted_none rfl) (v := Value.pointer (some ⟨xb, 2, none⟩)) (fun wr hwr => by simp only [execOp, (Fr5.eval 53 (by omega)).trans (show _ = Value.pointer (some ⟨xb, 0, none⟩) from by simp [upd, e0, e5, e7, e9, e10])]; simp [go_sem]) fun Fr6 => ?_
      refine lyp Fr6 rfl HCC rfl (by omega) (wanted_none rfl) (v := Value.pointer (some ⟨xb, 3, none⟩)) (fun wr hwr => by simp only [execOp, (Fr6.eval 54 (by omega)).trans (show _ = Value.pointer (some ⟨xb, 2, none⟩) from by simp [upd, e0, e5, e7, e9, e10]), (Fr6.eval 52 (by omega)).trans (show _ = Value.int .i64 1 from by simp [upd, e0, e5, e7, e9, e10])]; simp [go_sem, Act.eval]) fun Fr7 => ?_
      refine lyp Fr7 rfl HCC rfl (by omega) (wanted_none rfl) (v := Value.slice (some ⟨ig, 0, none⟩) il ic) (fun wr hwr => by simp only [execOp, (Fr7.eval 55 (by omega)).trans (show _ = Value.pointer (some ⟨xb, 3, none⟩) from by simp [upd, e0, e5, e7, e9, e10])]; simp [go_sem, VI wr hwr]) fun Fr8 => ?_
      refine lyp Fr8 rfl HCC rfl (by omega) (wanted_none rfl) (v := Value.int .i64 (il : Nat)) (fun wr hwr => by simp only [execOp, resolve, invoke, builtin, List.map_toArray, List.map_cons, List.map_nil, (Fr8.eval 56 (by omega)).trans (show _ = Value.slice (some ⟨ig, 0, none⟩) il ic from by simp [upd, e0, e5, e7, e9, e10])]; simp [go_sem, Builtin.len_, Builtin.lenOf]) fun Fr9 => ?_
      refine lyp Fr9 rfl HCC rfl (by omega) (wanted_none rfl) (v := Value.bool false) (fun wr hwr => by simp only [execOp, (Fr9.eval 49 (by omega)).trans (show _ = Value.int .i64 ((o + m : Nat) : Int) from by simp [upd, e0, e5, e7, e9, e10]), (Fr9.eval 57 (by omega)).trans (show _ = Value.int .i64 (il : Nat) from by simp [upd, e0, e5, e7, e9, e10])]; simp [go_sem, Act.eval]; omega) fun Fr10 => ?_
      refine lyp Fr10 rfl HCC rfl (by omega) (wanted_none rfl) (v := Value.bool false) (fun wr hwr => by simp only [execOp, (Fr10.eval 58 (by omega)).trans (show _ = Value.bool false from by simp [upd, e0, e5, e7, e9, e10])]; first | rfl | simp [go_sem]) fun Fr11 => ?_
      refine lyp Fr11 rfl HCC rfl (by omega) (want_yes Fr11 rfl (e := 59) rfl (by omega) (show _ = Value.bool false from by simp [upd, e0, e5, e7, e9, e10])) (v := Value.slice (some ⟨ug, 0, none⟩) dn uc) (fun wr hwr => by simp only [execOp, (Fr11.eval 7 (by omega)).trans (show _ = Value.slice (some ⟨ug, 0, none⟩) dn uc from by simp [upd, e0, e5, e7, e9, e10])]; first | rfl | simp [go_sem]) fun Fr12 => ?_
      refine lyp Fr12 rfl HCC rfl (by omega) (want_yes Fr12 rfl (e := 59) rfl (by omega) (show _ = Value.bool false from by simp [upd, e0, e5, e7, e9, e10])) (v := Value.int .i64 (m : Int)) (fun wr hwr => by simp only [execOp, (Fr12.eval 9 (by omega)).trans (show _ = Value.int .i64 (m : Int) from by simp [upd, e0, e5, e7, e9, e10])]; first | rfl | simp [go_sem]) fun Fr13 => ?_
      refine lyp Fr13 rfl HCC rfl (by omega) (want_yes Fr13 rfl (e := 59) rfl (by omega) (show _ = Value.bool false from by simp [upd, e0, e5, e7, e9, e10])) (v := Value.pointer (some ⟨ug, m, none⟩)) (fun wr hwr => by simp only [execOp, (Fr13.eval 60 (by omega)).trans (show _ = Value.slice (some ⟨ug, 0, none⟩) dn uc from by simp [upd, e0, e5, e7, e9, e10]), (Fr13.eval 61 (by omega)).trans (show _ = Value.int .i64 (m : Int) from by simp [upd, e0, e5, e7, e9, e10])]; simp only [Sem.run_bind, Sem.run_pure, Result.andThen_ok, idx_run 36 41 1 Try.underlying36 (by kernel_rfl) _ ug 0 dn uc m hml, Nat.zero_add, Nat.mul_one]; try rfl) fun Fr14 => ?_
      refine lyp Fr14 rfl HCC rfl (by omega) (want_yes Fr14 rfl (e := 59) rfl (by omega) (show _ = Value.bool false from by simp [upd, e0, e5, e7, e9, e10])) (v := d.v) (fun wr hwr => by simp only [execOp, (Fr14.eval 62 (by omega)).trans (show _ = Value.pointer (some ⟨ug, m, none⟩) from by simp [upd, e0, e5, e7, e9, e10])]; simp [go_sem, VU wr hwr]) fun Fr15 => ?_
      refine lyp Fr15 rfl HCC rfl (by omega) (want_yes Fr15 rfl (e := 59) rfl (by omega) (show _ = Value.bool false from by simp [upd, e0, e5, e7, e9, e10])) (v := Value.pointer (some ⟨xb, 0, none⟩)) (fun wr hwr => by simp only [execOp, (Fr15.eval 0 (by omega)).trans (show _ = Value.pointer (some ⟨xb, 0, none⟩) from by simp [upd, e0, e5, e7, e9, e10])]; first | rfl | simp [go_sem]) fun Fr16 => ?_
      refine lyp Fr16 rfl HCC rfl (by omega) (want_yes Fr16 rfl (e := 59) rfl (by omega) (show _ = Value.bool false from by simp [upd, e0, e5, e7, e9, e10])) (v := Value.int .i64 0) (fun wr hwr => by simp only [execOp, (Fr16.eval 5 (by omega)).trans (show _ = Value.int .i64 0 from by simp [upd, e0, e5, e7, e9, e10])]; first | rfl | simp [go_sem]) fun Fr17 => ?_
      refine lyp Fr17 rfl HCC rfl (by omega) (want_yes Fr17 rfl (e := 59) rfl (by omega) (show _ = Value.bool false from by simp [upd, e0, e5, e7, e9, e10])) (v := Value.int .i64 1) (fun wr hwr => by simp only [execOp, (Fr17.eval 65 (by omega)).trans (show _ = Value.int .i64 0 from by simp [upd, e0, e5, e7, e9, e10])]; simp [go_sem, Act.eval]; try rfl) fun Fr18 => ?_
      refine lyp Fr18 rfl HCC rfl (by omega) (want_yes Fr18 rfl (e := 59) rfl (by omega) (show _ = Value.bool false from by simp [upd, e0, e5, e7, e9, e10])) (v := Value.pointer (some ⟨xb, 0, none⟩)) (fun wr hwr => by simp only [execOp, (Fr18.eval 64 (by omega)).trans (show _ = Value.pointer (some ⟨xb, 0, none⟩) from by simp [upd, e0, e5, e7, e9, e10])]; simp [go_sem]) fun Fr19 => ?_
      refine lyp Fr19 rfl HCC rfl (by omega) (want_yes Fr19 rfl (e := 59) rfl (by omega) (show _ = Value.bool false from by simp [upd, e0, e5, e7, e9, e10])) (v := Value.pointer (some ⟨xb, 2, none⟩)) (fun wr hwr => by simp only [execOp, (Fr19.eval 67 (by omega)).trans (show _ = Value.pointer (some ⟨xb, 0, none⟩) from by simp [upd, e0, e5, e7, e9, e10])]; simp [go_sem]) fun Fr20 => ?_
      refine lyp Fr20 rfl HCC rfl (by omega) (want_yes Fr20 rfl (e := 59) rfl (by omega) (show _ = Value.bool false from by simp [upd, e0, e5, e7, e9, e10])) (v := Value.pointer (some ⟨xb, 3, none⟩)) (fun wr hwr => by simp only [execOp, (Fr20.eval 68 (by omega)).trans (show _ = Value.pointer (some ⟨xb, 2, none⟩) from by simp [upd, e0, e5, e7, e9, e10]), (Fr20.eval 66 (by omega)).trans (show _ = Value.int .i64 1 from by simp [upd, e0, e5, e7, e9, e10])]; simp [go_sem, Act.eval]) fun Fr21 => ?_
      refine lyp Fr21 rfl HCC rfl (by omega) (want_yes Fr21 rfl (e := 59) rfl (by omega) (show _ = Value.bool false from by simp [upd, e0, e5, e7, e9, e10])) (v := Value.slice (some ⟨ig, 0, none⟩) il ic) (fun wr hwr => by simp only [execOp, (Fr21.eval 69 (by omega)).trans (show _ = Value.pointer (some ⟨xb, 3, none⟩) from by simp [upd, e0, e5, e7, e9, e10])]; simp [go_sem, VI wr hwr]) fun Fr22 => ?_
      refine lyp Fr22 rfl HCC rfl (by omega) (want_yes Fr22 rfl (e := 59) rfl (by omega) (show _ = Value.bool false from by simp [upd, e0, e5, e7, e9, e10])) (v := Value.int .i64 ((o + m : Nat) : Int)) (fun wr hwr => by simp only [execOp, (Fr22.eval 10 (by omega)).trans (show _ = Value.int .i64 ((o + m : Nat) : Int) from by simp [upd, e0, e5, e7, e9, e10])]; first | rfl | simp [go_sem]) fun Fr23 => ?_
      refine lyp Fr23 rfl HCC rfl (by omega) (want_yes Fr23 rfl (e := 59) rfl (by omega) (show _ = Value.bool false from by simp [upd, e0, e5, e7, e9, e10])) (v := Value.pointer (some ⟨ig, o + m, none⟩)) (fun wr hwr => by simp only [execOp, (Fr23.eval 70 (by omega)).trans (show _ = Value.slice (some ⟨ig, 0, none⟩) il ic from by simp [upd, e0, e5, e7, e9, e10]), (Fr23.eval 71 (by omega)).trans (show _ = Value.int .i64 ((o + m : Nat) : Int) from by simp [upd, e0, e5, e7, e9, e10])]; simp only [Sem.run_bind, Sem.run_pure, Result.andThen_ok, idx_run 36 41 1 Try.underlying36 (by kernel_rfl) _ ig 0 il ic (o + m) hoi, Nat.zero_add, Nat.mul_one]; try rfl) fun Fr24 => ?_
      refine lyp Fr24 rfl HCC rfl (by omega) (want_yes Fr24 rfl (e := 59) rfl (by omega) (show _ = Value.bool false from by simp [upd, e0, e5, e7, e9, e10])) (v := di.v) (fun wr hwr => by simp only [execOp, (Fr24.eval 72 (by omega)).trans (show _ = Value.pointer (some ⟨ig, o + m, none⟩) from by simp [upd, e0, e5, e7, e9, e10])]; simp [go_sem, VJ wr hwr]) fun Fr25 => ?_
      refine lcp Fr25 rfl HCC rfl (by omega) (want_yes Fr25 rfl (e := 59) rfl (by omega) (show _ = Value.bool false from by simp [upd, e0, e5, e7, e9, e10])) (g := 20) (args := #[d.v, di.v]) (by simp only [execOp, resolve, invoke, List.map_toArray, List.map_cons, List.map_nil, (Fr25.eval 63 (by omega)).trans (show _ = d.v from by simp [upd, e0, e5, e7, e9, e10]), (Fr25.eval 73 (by omega)).trans (show _ = di.v from by simp [upd, e0, e5, e7, e9, e10])]; simp [go_sem, Act.eval]) HSM.out ?_
      rintro e w2 ⟨rfl, rfl⟩
      refine ⟨_, rfl, fun Fr26 => ?_⟩
      refine lyp Fr26 rfl HCC rfl (by omega) (want_yes Fr26 rfl (e := 59) rfl (by omega) (show _ = Value.bool false from by simp [upd, e0, e5, e7, e9, e10])) (v := Value.bool false) (fun wr hwr => by simp only [execOp, (Fr26.eval 74 (by omega)).trans (show _ = Value.bool true from by simp [upd, e0, e5, e7, e9, e10])]; simp [go_sem, Act.eval]) fun Fr27 => ?_
      refine lyp Fr27 rfl HCC rfl (by omega) (wanted_none rfl) (v := Value.bool false) (fun wr hwr => by simp only [execOp, (Fr27.eval 59 (by omega)).trans (show _ = Value.bool false from by simp [upd, e0, e5, e7, e9, e10]), (Fr27.eval 75 (by omega)).trans (show _ = Value.bool false from by simp [upd, e0, e5, e7, e9, e10])]; simp [go_sem, Act.eval]) fun Fr28 => ?_
      refine ⟨fun _ => HCC, ?_⟩
      refine hK _ _ ?_
      clear F0 Fr1 Fr2 Fr3 Fr4 Fr5 Fr6 Fr7 Fr8 Fr9 Fr10 Fr11 Fr12 Fr13 Fr14 Fr15 Fr16 Fr17 Fr18 Fr19 Fr20 Fr21 Fr22 Fr23 Fr24 Fr25 Fr26 Fr27 Fr28 e0 e5 e7 e9 e10 HCC
      simp only [Act.put, List.setIfInBounds_toArray, List.set_cons_succ, List.set_cons_zero]
      obtain ⟨X5, hX5⟩ : ∃ X5 : World, X5 = wr.drew := ⟨_, rfl⟩
      rw [← hX5]
      have HC5 : Hid (CM L Y.heap.size xb S4 col4 1 o m (.slice (some ⟨ug, 0, none⟩) dn uc) ds AJ w X5) := show CM _ _ _ _ _ _ _ _ _ _ _ _ _ from by rw [hX5]; exact HC.out.more ((Below.refl _ _).drew)
      have c5 : X5.cell? ⟨xb, 5, none⟩ = some (.int .i64 ((o + m : Nat) : Int)) := by rw [hX5]; exact c4
      have HF5 : Hid (X5.frozen? ⟨xb, 5, none⟩ = false) := show _ = _ from by rw [hX5]; exact HFZ.out
      clear VI VU VJ HSM hX5 c4 HFZ
      go_upto_region 15 with fail
      have HST : Hid (∀ wz, CM L Y.heap.size xb S4 col4 1 o m (.slice (some ⟨ug, 0, none⟩) dn uc) ds AJ w wz → CM L Y.heap.size xb S4 col4 1 o (m + 1) (.slice (some ⟨ug, 0, none⟩) dn uc) ds AJ w (wz.setCell ⟨xb, 5, none⟩ (.int .i64 ((o + (m + 1) : Nat) : Int)))) := fun wz hz => hz.step (by omega) HAX.out
      try rw [show ∀ a : Act, a.put none undef = a from fun _ => rfl]
      refine wp_region_mix (fun wz => wz.cell? ⟨xb, 5, none⟩ = some (.int .i64 ((o + m : Nat) : Int))) (fun i => i == 11) 11 (by kernel_rfl) rfl (by kernel_rfl) (by kernel_rfl) (by kernel_rfl) ?_
      refine withFrP (N := 104) rfl ?_
      intro f0 F0 hff
      have e0 : f0 0 = Value.pointer (some ⟨xb, 0, none⟩) := hff 0
      have e5 : f0 5 = Value.int .i64 0 := hff 5
      clear hff
      have HCC : (fun wz => wz.cell? ⟨xb, 5, none⟩ = some (.int .i64 ((o + m : Nat) : Int))) (({ X5 with drawn := X5.drawn + 1 } : World)) := c5
      refine lyp F0 rfl HCC rfl (by omega) (wanted_none rfl) (v := Value.pointer (some ⟨xb, 0, none⟩)) (fun wr hwr => by simp only [execOp, (F0.eval 0 (by omega)).trans (show _ = Value.pointer (some ⟨xb, 0, none⟩) from by simp [upd, e0, e5])]; first | rfl | simp [go_sem]) fun Fs1 => ?_
      refine lyp Fs1 rfl HCC rfl (by omega) (wanted_none rfl) (v := Value.int .i64 0) (fun wr hwr => by simp only [execOp, (Fs1.eval 5 (by omega)).trans (show _ = Value.int .i64 0 from by simp [upd, e0, e5])]; first | rfl | simp [go_sem]) fun Fs2 => ?_
      refine lyp Fs2 rfl HCC rfl (by omega) (wanted_none rfl) (v := Value.int .i64 1) (fun wr hwr => by simp only [execOp, (Fs2.eval 78 (by omega)).trans (show _ = Value.int .i64 0 from by simp [upd, e0, e5])]; simp [go_sem, Act.eval]; try rfl) fun Fs3 => ?_
      refine lyp Fs3 rfl HCC rfl (by omega) (wanted_none rfl) (v := Value.pointer (some ⟨xb, 0, none⟩)) (fun wr hwr => by simp only [execOp, (Fs3.eval 77 (by omega)).trans (show _ = Value.pointer (some ⟨xb, 0, none⟩) from by simp [upd, e0, e5])]; simp [go_sem]) fun Fs4 => ?_
      refine lyp Fs4 rfl HCC rfl (by omega) (wanted_none rfl) (v := Value.pointer (some ⟨xb, 4, none⟩)) (fun wr hwr => by simp only [execOp, (Fs4.eval 80 (by omega)).trans (show _ = Value.pointer (some ⟨xb, 0, none⟩) from by simp [upd, e0, e5])]; simp [go_sem]) fun Fs5 => ?_
      refine lyp Fs5 rfl HCC rfl (by omega) (wanted_none rfl) (v := Value.pointer (some ⟨xb, 5, none⟩)) (fun wr hwr => by simp only [execOp, (Fs5.eval 81 (by omega)).trans (show _ = Value.pointer (some ⟨xb, 4, none⟩) from by simp [upd, e0, e5]), (Fs5.eval 79 (by omega)).trans (show _ = Value.int .i64 1 from by simp [upd, e0, e5])]; simp [go_sem, Act.eval]) fun Fs6 => ?_
      refine lyp Fs6 rfl HCC rfl (by omega) (wanted_none rfl) (v := Value.int .i64 ((o + m : Nat) : Int)) (fun wr hwr => by simp only [execOp, (Fs6.eval 82 (by omega)).trans (show _ = Value.pointer (some ⟨xb, 5, none⟩) from by simp [upd, e0, e5])]; simp [go_sem, show wr.cell? _ = _ from hwr]) fun Fs7 => ?_
      refine lyp Fs7 rfl HCC rfl (by omega) (wanted_none rfl) (v := Value.int .i64 ((o + (m + 1) : Nat) : Int)) (fun wr hwr => by simp only [execOp, (Fs7.eval 83 (by omega)).trans (show _ = Value.int .i64 ((o + m : Nat) : Int) from by simp [upd, e0, e5])]; simp [go_sem, Act.eval]; rw [IntKind.wrap_i64]; omega) fun Fs8 => ?_
      refine lyp Fs8 rfl HCC rfl (by omega) (wanted_none rfl) (v := Value.pointer (some ⟨xb, 0, none⟩)) (fun wr hwr => by simp only [execOp, (Fs8.eval 77 (by omega)).trans (show _ = Value.pointer (some ⟨xb, 0, none⟩) from by simp [upd, e0, e5])]; simp [go_sem]) fun Fs9 => ?_
      refine lyp Fs9 rfl HCC rfl (by omega) (wanted_none rfl) (v := Value.pointer (some ⟨xb, 4, none⟩)) (fun wr hwr => by simp only [execOp, (Fs9.eval 85 (by omega)).trans (show _ = Value.pointer (some ⟨xb, 0, none⟩) from by simp [upd, e0, e5])]; simp [go_sem]) fun Fs10 => ?_
      refine lyp Fs10 rfl HCC rfl (by omega) (wanted_none rfl) (v := Value.pointer (some ⟨xb, 5, none⟩)) (fun wr hwr => by simp only [execOp, (Fs10.eval 86 (by omega)).trans (show _ = Value.pointer (some ⟨xb, 4, none⟩) from by simp [upd, e0, e5]), (Fs10.eval 79 (by omega)).trans (show _ = Value.int .i64 1 from by simp [upd, e0, e5])]; simp [go_sem, Act.eval]) fun Fs11 => ?_
      refine lst rfl HCC rfl (wanted_none rfl) (w1 := World.setCell ({ X5 with drawn := X5.drawn + 1 } : World) ⟨xb, 5, none⟩ (.int .i64 ((o + (m + 1) : Nat) : Int))) (by simp only [execOp, (Fs11.eval 87 (by omega)).trans (show _ = Value.pointer (some ⟨xb, 5, none⟩) from by simp [upd, e0, e5]), (Fs11.eval 84 (by omega)).trans (show _ = Value.int .i64 ((o + (m + 1) : Nat) : Int) from by simp [upd, e0, e5])]; simp [go_sem, c5, HF5.out]) ?_
      refine ⟨fun h => by omega, ?_⟩
      clear F0 Fs1 Fs2 Fs3 Fs4 Fs5 Fs6 Fs7 Fs8 Fs9 Fs10 Fs11 e0 e5 HCC
      simp only [Act.put, List.setIfInBounds_toArray, List.set_cons_succ, List.set_cons_zero]
      have HF : Hid (CM L Y.heap.size xb S4 col4 1 o (m + 1) (.slice (some ⟨ug, 0, none⟩) dn uc) ds AJ w (World.setCell ({ X5 with drawn := X5.drawn + 1 } : World) ⟨xb, 5, none⟩ (.int .i64 ((o + (m + 1) : Nat) : Int)))) := HST.out _ (HC5.out.more ((Below.refl _ _).drew))
      try go_wp2_with fail
      go_roundw
      case rel => exact ⟨m + 1, by omega, by go_num, HF.out⟩
      case measure => simp [intOf]; omega
    · obtain rfl : m = dn := by omega
      have VJ : ∀ wz, Below wr.heap.size wr wz → wz.cell? ⟨xb, 0, none⟩ = some (.pointer (some ⟨lj, 0, none⟩)) := fun wz hb => (hb.cell (p := ⟨xb, 0, none⟩) HC.out.ln.b.lt).trans (by rw [← HEJ.out.2]; exact HC.out.ln.b.cell 0)
      have VO : ∀ wz, Below wr.heap.size wr wz → wz.cell? ⟨xb, 5, none⟩ = some (.int .i64 ((o + m : Nat) : Int)) := fun wz hb => (hb.cell (p := ⟨xb, 5, none⟩) HC.out.ln.b.lt).trans c4
      have hmJ := (HC.out.ln.em 0 (by omega)).lm
      rw [Ln.outO_ne _ _ (by decide : (0 : Nat) ≠ 1), HEJ.out.1, HEJ.out.2] at hmJ
      have HNX : Hid (Calls Try.prog 11 #[.pointer (some ⟨lj, 0, none⟩)] wr.drew fun e w' => e = .returned (.int .i64 (((o + m : Nat) : Int) + 1)) ∧ w' = wr.drew) := (next_any wr.drew (hmJ.more ((Below.refl _ _).drew))).mono (by rintro e w' ⟨rfl, rfl⟩; rw [HNX0.out]; exact ⟨rfl, rfl⟩)
      have HF : Hid (LNM L xb ((S.endX 0 uv4 x4).outO 1 ((S.e 1).out + ds.length)) col4 wr.drew ∧ Chg (fun j => j = xb ∨ lown (S.e 0).lb (S.e 0).cb (S.e 0).mb (S.e 0).uv (S.e 0).x j) w wr.drew) := by
        have h1 := HC.out.more ((Below.refl _ _).drew)
        refine ⟨?_, by rw [← HAJ.out]; exact h1.ch⟩
        have h2 := h1.ln
        rw [HS4.out, HO.out, HDN.out] at h2
        exact h2
      clear hmJ
      go_upto_region 16 with fail
      rename_i K hK
      try rw [show ∀ a : Act, a.put none undef = a from fun _ => rfl]
      refine wp_region_mix (fun wz => Below wr.heap.size wr wz) (fun i => i == 6 || i == 99) 99 (by kernel_rfl) rfl (by kernel_rfl) (by kernel_rfl) (by kernel_rfl) ?_
      refine withFrP (N := 104) rfl ?_
      intro f0 F0 hff
      have e0 : f0 0 = Value.pointer (some ⟨xb, 0, none⟩) := hff 0
      have e5 : f0 5 = Value.int .i64 0 := hff 5
      clear hff
      have HCC : (fun wz => Below wr.heap.size wr wz) (({ wr with drawn := wr.drawn + 1 } : World)) := (Below.refl _ _).drew
      refine lyp F0 rfl HCC rfl (by omega) (wanted_none rfl) (v := Value.pointer (some ⟨xb, 0, none⟩)) (fun wr hwr => by simp only [execOp, (F0.eval 0 (by omega)).trans (show _ = Value.pointer (some ⟨xb, 0, none⟩) from by simp [upd, e0, e5])]; first | rfl | simp [go_sem]) fun Ft1 => ?_
      refine lyp Ft1 rfl HCC rfl (by omega) (wanted_none rfl) (v := Value.int .i64 0) (fun wr hwr => by simp only [execOp, (Ft1.eval 5 (by omega)).trans (show _ = Value.int .i64 0 from by simp [upd, e0, e5])]; first | rfl | simp [go_sem]) fun Ft2 => ?_
      refine lyp Ft2 rfl HCC rfl (by omega) (wanted_none rfl) (v := Value.pointer (some ⟨xb, 0, none⟩)) (fun wr hwr => by simp only [execOp, (Ft2.eval 88 (by omega)).trans (show _ = Value.pointer (some ⟨xb, 0, none⟩) from by simp [upd, e0, e5])]; simp [go_sem]) fun Ft3 => ?_
      refine lyp Ft3 rfl HCC rfl (by omega) (wanted_none rfl) (v := Value.pointer (some ⟨xb, 0, none⟩)) (fun wr hwr => by simp only [execOp, (Ft3.eval 90 (by omega)).trans (show _ = Value.pointer (some ⟨xb, 0, none⟩) from by simp [upd, e0, e5])]; simp [go_sem]) fun Ft4 => ?_
      refine lyp Ft4 rfl HCC rfl (by omega) (wanted_none rfl) (v := Value.pointer (some ⟨xb, 0, none⟩)) (fun wr hwr => by simp only [execOp, (Ft4.eval 91 (by omega)).trans (show _ = Value.pointer (some ⟨xb, 0, none⟩) from by simp [upd, e0, e5]), (Ft4.eval 89 (by omega)).trans (show _ = Value.int .i64 0 from by simp [upd, e0, e5])]; simp [go_sem, Act.eval]) fun Ft5 => ?_
      refine lyp Ft5 rfl HCC rfl (by omega) (wanted_none rfl) (v := Value.pointer (some ⟨lj, 0, none⟩)) (fun wr hwr => by simp only [execOp, (Ft5.eval 92 (by omega)).trans (show _ = Value.pointer (some ⟨xb, 0, none⟩) from by simp [upd, e0, e5])]; simp [go_sem, VJ wr hwr]) fun Ft6 => ?_
      refine lcp Ft6 rfl HCC rfl (by omega) (wanted_none rfl) (g := 11) (args := #[Value.pointer (some ⟨lj, 0, none⟩)]) (by simp only [execOp, resolve, invoke, List.map_toArray, List.map_cons, List.map_nil, (Ft6.eval 93 (by omega)).trans (show _ = Value.pointer (some ⟨lj, 0, none⟩) from by simp [upd, e0, e5])]; simp [go_sem, Act.eval]) HNX.out ?_
      rintro e w2 ⟨rfl, rfl⟩
      refine ⟨_, rfl, fun Ft7 => ?_⟩
      refine lyp Ft7 rfl HCC rfl (by omega) (wanted_none rfl) (v := Value.pointer (some ⟨xb, 0, none⟩)) (fun wr hwr => by simp only [execOp, (Ft7.eval 0 (by omega)).trans (show _ = Value.pointer (some ⟨xb, 0, none⟩) from by simp [upd, e0, e5])]; first | rfl | simp [go_sem]) fun Ft8 => ?_
      refine lyp Ft8 rfl HCC rfl (by omega) (wanted_none rfl) (v := Value.int .i64 0) (fun wr hwr => by simp only [execOp, (Ft8.eval 5 (by omega)).trans (show _ = Value.int .i64 0 from by simp [upd, e0, e5])]; first | rfl | simp [go_sem]) fun Ft9 => ?_
      refine lyp Ft9 rfl HCC rfl (by omega) (wanted_none rfl) (v := Value.int .i64 1) (fun wr hwr => by simp only [execOp, (Ft9.eval 96 (by omega)).trans (show _ = Value.int .i64 0 from by simp [upd, e0, e5])]; simp [go_sem, Act.eval]; try rfl) fun Ft10 => ?_
      refine lyp Ft10 rfl HCC rfl (by omega) (wanted_none rfl) (v := Value.pointer (some ⟨xb, 0, none⟩)) (fun wr hwr => by simp only [execOp, (Ft10.eval 95 (by omega)).trans (show _ = Value.pointer (some ⟨xb, 0, none⟩) from by simp [upd, e0, e5])]; simp [go_sem]) fun Ft11 => ?_
      refine lyp Ft11 rfl HCC rfl (by omega) (wanted_none rfl) (v := Value.pointer (some ⟨xb, 4, none⟩)) (fun wr hwr => by simp only [execOp, (Ft11.eval 98 (by omega)).trans (show _ = Value.pointer (some ⟨xb, 0, none⟩) from by simp [upd, e0, e5])]; simp [go_sem]) fun Ft12 => ?_
      refine lyp Ft12 rfl HCC rfl (by omega) (wanted_none rfl) (v := Value.pointer (some ⟨xb, 5, none⟩)) (fun wr hwr => by simp only [execOp, (Ft12.eval 99 (by omega)).trans (show _ = Value.pointer (some ⟨xb, 4, none⟩) from by simp [upd, e0, e5]), (Ft12.eval 97 (by omega)).trans (show _ = Value.int .i64 1 from by simp [upd, e0, e5])]; simp [go_sem, Act.eval]) fun Ft13 => ?_
      refine lyp Ft13 rfl HCC rfl (by omega) (wanted_none rfl) (v := Value.int .i64 ((o + m : Nat) : Int)) (fun wr hwr => by simp only [execOp, (Ft13.eval 100 (by omega)).trans (show _ = Value.pointer (some ⟨xb, 5, none⟩) from by simp [upd, e0, e5])]; simp [go_sem, VO wr hwr]) fun Ft14 => ?_
      refine lyp Ft14 rfl HCC rfl (by omega) (wanted_none rfl) (v := Value.int .i64 (((o + m : Nat) : Int) + 1)) (fun wr hwr => by simp only [execOp, (Ft14.eval 101 (by omega)).trans (show _ = Value.int .i64 ((o + m : Nat) : Int) from by simp [upd, e0, e5])]; simp [go_sem, Act.eval]; rw [IntKind.wrap_i64]; omega) fun Ft15 => ?_
      refine lyp Ft15 rfl HCC rfl (by omega) (wanted_none rfl) (v := Value.bool true) (fun wr hwr => by simp only [execOp, (Ft15.eval 94 (by omega)).trans (show _ = Value.int .i64 (((o + m : Nat) : Int) + 1) from by simp [upd, e0, e5]), (Ft15.eval 102 (by omega)).trans (show _ = Value.int .i64 (((o + m : Nat) : Int) + 1) from by simp [upd, e0, e5])]; simp [go_sem, Act.eval]) fun Ft16 => ?_
      refine lyp Ft16 rfl HCC rfl (by omega) (wanted_none rfl) (v := Value.bool true) (fun wr hwr => by simp only [execOp, (Ft16.eval 103 (by omega)).trans (show _ = Value.bool true from by simp [upd, e0, e5])]; first | rfl | simp [go_sem]) fun Ft17 => ?_
      refine ⟨fun _ => HCC, ?_⟩
      refine hK _ _ ?_
      clear F0 Ft1 Ft2 Ft3 Ft4 Ft5 Ft6 Ft7 Ft8 Ft9 Ft10 Ft11 Ft12 Ft13 Ft14 Ft15 Ft16 Ft17 e0 e5 HCC
      simp only [Act.put, List.setIfInBounds_toArray, List.set_cons_succ, List.set_cons_zero]
      go_wp2_with fail
      go_ret
      exact ⟨rfl, uv4, ds, x4, col4, HTE.out, HF.out.1, HF.out.2, HCL.out⟩
end Go.Proofs.Ytcjgicfmfjomgaa
