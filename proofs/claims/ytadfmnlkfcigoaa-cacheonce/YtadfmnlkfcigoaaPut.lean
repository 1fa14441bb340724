import Derived.Test.YtadfmnlkfcigoaaJoinC
namespace Go.Proofs.Ytadfmnlkfcigoaa
open Go.RowKit Go.PlainAid Go.MapKept
set_option linter.unusedVariables false
set_option linter.unusedSimpArgs false
set_option maxRecDepth 100000 in
set_option maxHeartbeats 6400000 in
theorem put_room {hb m : Nat} {la : Int} {R : List Rp} (r : Rp) (w : World) (hH : Hist w hb m la R) (hmp : 0 < m) (hRl : R.length < m) :
    Calls Try.prog 22 #[.pointer (some ⟨hb, 1, none⟩), .agg (rpA r)] w fun e w' => (∃ v, e = .returned v) ∧ ∃ R', RPut m r R R' ∧ Hist w' hb m la R' ∧ Chg (fun k => k = hb) w w' := by
  obtain ⟨C, sl, f, hB, hC, hf, hm, hl, hR⟩ := hH
  unfold rpA
  obtain ⟨X, hX⟩ : ∃ X, X = w.alloc (.cells #[.int .i64 r.s, .int .i64 r.i, .int .i64 r.e, .int .i64 r.v] 36) := ⟨_, rfl⟩
  have hbX : Below w.heap.size w X := by rw [hX]; exact (Below.refl _ _).alloc (Nat.le_refl _) _
  obtain ⟨bx, hbx⟩ : ∃ bx, bx = w.heap.size := ⟨_, rfl⟩
  have hXB : Blk X bx #[.int .i64 r.s, .int .i64 r.i, .int .i64 r.e, .int .i64 r.v] 36 := by rw [hX, hbx]; exact heap_alloc_new w _
  have hBX : Blk X hb C 67 := hB.below hbX hB.lt
  have HBX : Hid (Blk X hb C 67) := hBX
  have HXB : Hid (Blk X bx #[.int .i64 r.s, .int .i64 r.i, .int .i64 r.e, .int .i64 r.v] 36) := hXB
  have HC' : Hid (HC C la sl m f R.length) := hC
  have HR : Hid (∀ i x, R[i]? = some x → sl ((f + i) % m) = x) := hR
  have HCG : Hid (Chg (fun k => k = hb) w X) := Chg.ofBelow _ hbX
  have c67 : (w.alloc (.cells #[.int .i64 r.s, .int .i64 r.i, .int .i64 r.e, .int .i64 r.v] 36)).cell? ⟨hb, 67, none⟩ = some (.int .i64 (R.length : Nat)) := by rw [← hX]; exact (hBX.cell 67).trans hC.c67
  have c65 : (w.alloc (.cells #[.int .i64 r.s, .int .i64 r.i, .int .i64 r.e, .int .i64 r.v] 36)).cell? ⟨hb, 65, none⟩ = some (.int .i64 (m : Nat)) := by rw [← hX]; exact (hBX.cell 65).trans hC.c65
  have hne : ((R.length : Nat) : Int) ≠ (m : Nat) := by omega
  clear hB hC hBX hXB hbX hR
  go_enter Try.func22, Try.ntmps22
  go_wp2_with fail
  simp only [← hX, ← hbx] at c65 c67 ⊢
  clear hX hbx
  go_quiet (fail)
  rw [show (((R.length : Nat) : Int) == ((m : Nat) : Int)) = false from by simpa using hne]
  obtain ⟨Y, hY⟩ : ∃ Y, Y = X.drewN nq := ⟨_, rfl⟩
  rw [← hY]
  have hBY : Blk Y hb C 67 := by rw [hY]; exact HBX.out
  have hXY : Blk Y bx (rpA r) 36 := by rw [hY]; exact HXB.out
  have hChg : Chg (fun k => k = hb) w Y := by rw [hY]; exact HCG.out.drewN nq
  have hCY := HC'.out
  have hRY := HR.out
  obtain ⟨Rr, hRr⟩ : ∃ Rr, Rr = R := ⟨_, rfl⟩
  obtain ⟨ff, hff0⟩ : ∃ ff, ff = f := ⟨_, rfl⟩
  obtain ⟨C2, hC2⟩ : ∃ C2, C2 = C := ⟨_, rfl⟩
  rw [← hRr, ← hff0, ← hC2] at hCY
  rw [← hRr, ← hff0] at hRY
  rw [← hC2] at hBY
  have hff : ff < m := by omega
  have hRn : Rr.length < m := by rw [hRr]; exact hRl
  have HPUT : Hid (∀ R', Ins r Rr R' → RPut m r R R') := fun R' h => Or.inr (Or.inr ⟨hRl, hRr ▸ h⟩)
  clear hY hC2 hff0 hRr HBX HXB HCG HC' HR c65 c67 hne
  have HPS : Hid (PSt hb m la ff r Rr bx w Y Rr.length) := ⟨⟨C2, sl, hBY, hCY, fun j x _ hx => hRY j x hx, fun j x hj hx => by have := (List.getElem?_eq_some_iff.1 hx).1; omega⟩, fun j x hj hx => by have := (List.getElem?_eq_some_iff.1 hx).1; omega, hXY, hChg, Nat.le_refl _⟩
  have HAT : Hid (∀ (i : Nat) (wr : World) (k : Nat), PSt hb m la ff r Rr bx w wr k → i ≤ 16 → Calls Try.prog 27 #[.pointer (some ⟨hb, 1, none⟩), .int .i64 (i : Nat)] wr fun e w' => e = .returned (.pointer (some ⟨hb, 1 + 4 * ((ff + i) % m), none⟩)) ∧ ∃ q, w' = wr.drewN q) := fun i wr k h hi => by
    obtain ⟨⟨C, sl, h1, h2, _⟩, _⟩ := h
    exact at_any i wr h1 h2 hff hm hi
  have y67 : Y.cell? ⟨hb, 67, none⟩ = some (.int .i64 (Rr.length : Nat)) := (hBY.cell 67).trans hCY.c67
  clear hBY hCY hRY hXY hChg
  go_wp2_with fail
  go_loopw [4] (fun i wr => ∃ k : Nat, i = .int .i64 k ∧ PSt hb m la ff r Rr bx w wr k) (fun i _ => (intOf i).toNat)
  case atStart => exact ⟨Rr.length, rfl, HPS.out⟩
  case round =>
    obtain ⟨k, rfl, hP⟩ := hrel
    clear HPS y67
    have hkl := hP.kl
    have b0 : ∀ q, (wr.drewN q).cell? ⟨bx, 0, none⟩ = some (.int .i64 r.s) := fun q => hP.bx.cell 0
    have b1 : ∀ q, (wr.drewN q).cell? ⟨bx, 1, none⟩ = some (.int .i64 r.i) := fun q => hP.bx.cell 1
    have b2 : ∀ q, (wr.drewN q).cell? ⟨bx, 2, none⟩ = some (.int .i64 r.e) := fun q => hP.bx.cell 2
    have b3 : ∀ q, (wr.drewN q).cell? ⟨bx, 3, none⟩ = some (.int .i64 r.v) := fun q => hP.bx.cell 3
    have FIN : Hid (∀ q : Nat, PSt hb m la ff r Rr bx w (wr.drewN q) k) := fun q => hP.drew q
    have hcnt : wr.cell? ⟨hb, 67, none⟩ = some (.int .i64 (Rr.length : Nat)) := by
      obtain ⟨⟨C, sl, h1, h2, _⟩, _⟩ := hP
      exact (h1.cell 67).trans h2.c67
    have hsl4 : ∀ j, j < 4 → (wr.cell? ⟨hb, 1 + 4 * ((ff + k) % m) + j, none⟩).isSome ∧ wr.frozen? ⟨hb, 1 + 4 * ((ff + k) % m) + j, none⟩ = false := fun j hj => by
      obtain ⟨⟨C, sl, h1, h2, _⟩, _⟩ := hP
      have hlt : (ff + k) % m < m := Nat.mod_lt _ (by omega)
      refine ⟨?_, h1.frozen _⟩
      rw [h1.cell, Array.getElem?_eq_getElem (by rw [h2.size]; omega)]
      rfl
    have hfz : wr.frozen? ⟨hb, 67, none⟩ = false := by
      obtain ⟨⟨C, sl, h1, h2, _⟩, _⟩ := hP
      exact h1.frozen _
    obtain ⟨o, ho⟩ : ∃ o, o = 1 + 4 * ((ff + k) % m) := ⟨_, rfl⟩
    rw [← ho] at hsl4
    have ho68 : o + 3 < 67 := by have := Nat.mod_lt (ff + k) hmp; omega
    obtain ⟨⟨s0, y0'⟩, ⟨s1, y1'⟩, ⟨s2, y2'⟩, s3, y3'⟩ := (⟨hsl4 0 (by omega), hsl4 1 (by omega), hsl4 2 (by omega), hsl4 3 (by omega)⟩ : _ ∧ _ ∧ _ ∧ _)
    obtain ⟨v0, u0'⟩ := Option.isSome_iff_exists.1 s0
    obtain ⟨v1, u1'⟩ := Option.isSome_iff_exists.1 s1
    obtain ⟨v2, u2'⟩ := Option.isSome_iff_exists.1 s2
    obtain ⟨v3, u3'⟩ := Option.isSome_iff_exists.1 s3
    have u0 : ∀ q, (wr.drewN q).cell? ⟨hb, o, none⟩ = some v0 := fun q => u0'
    have u1 : ∀ q, (wr.drewN q).cell? ⟨hb, o + 1, none⟩ = some v1 := fun q => u1'
    have u2 : ∀ q, (wr.drewN q).cell? ⟨hb, o + 2, none⟩ = some v2 := fun q => u2'
    have u3 : ∀ q, (wr.drewN q).cell? ⟨hb, o + 3, none⟩ = some v3 := fun q => u3'
    have y0 : ∀ q, (wr.drewN q).frozen? ⟨hb, o, none⟩ = false := fun q => y0'
    have y1 : ∀ q, (wr.drewN q).frozen? ⟨hb, o + 1, none⟩ = false := fun q => y1'
    have y2 : ∀ q, (wr.drewN q).frozen? ⟨hb, o + 2, none⟩ = false := fun q => y2'
    have y3 : ∀ q, (wr.drewN q).frozen? ⟨hb, o + 3, none⟩ = false := fun q => y3'
    clear s0 s1 s2 s3 u0' u1' u2' u3' y0' y1' y2' y3'
    have HSL : Hid True := trivial
    have HOO : Hid _ := ho
    have HAK : Hid (∀ q, Calls Try.prog 27 #[.pointer (some ⟨hb, 1, none⟩), .int .i64 (k : Nat)] (wr.drewN q) fun e w' => e = .returned (.pointer (some ⟨hb, o, none⟩)) ∧ ∃ q', w' = (wr.drewN q).drewN q') := fun q => by
      have := HAT.out k (wr.drewN q) k (hP.drew q) (by omega)
      rw [← ho] at this
      exact this
    have HKB : Hid _ := hkl
    clear hsl4 ho
    by_cases hk0 : k = 0
    · subst hk0
      have HINS : Hid (Ins r Rr (Rr.take 0 ++ r :: Rr.drop 0)) := ⟨0, Nat.zero_le _, rfl, fun x hx => by
        obtain ⟨j, hj, rfl⟩ := List.getElem_of_mem hx
        have := hP.gt j _ (Nat.zero_le _) (List.getElem?_eq_getElem (by simpa using hj))
        simpa using this, Or.inl rfl⟩
      clear hP
      go_wp2_with fail
      rename_i K6 hK6
      try rw [show ∀ a : Act, a.put none undef = a from fun _ => rfl]
      refine wp_region_mix (fun wq => ∃ q : Nat, wq = wr.drewN q) (fun i => i == 99) 99 (by kernel_rfl) rfl (by kernel_rfl) (by kernel_rfl) (by kernel_rfl) ?_
      refine withFrP (N := 88) rfl ?_
      intro f0 F0 hff
      have e0 : f0 0 = Value.pointer (some ⟨hb, 1, none⟩) := hff 0
      have e3 : f0 3 = Value.pointer (some ⟨bx, 0, none⟩) := hff 3
      have e4 : f0 4 = Value.int .i64 ((0 : Nat) : Int) := hff 4
      clear hff
      have HCC : (fun wq => ∃ q : Nat, wq = wr.drewN q) (({ wr with drawn := wr.drawn + 1 } : World)) := ⟨1, rfl⟩
      refine lyp F0 rfl HCC rfl (by omega) (wanted_none rfl) (v := Value.int .i64 ((0 : Nat) : Int)) (fun wr hwr => by simp only [execOp, (F0.eval 4 (by omega)).trans (show _ = Value.int .i64 ((0 : Nat) : Int) from by simp [upd, e0, e3, e4])]; first | rfl | simp [go_sem]) fun F1 => ?_
      refine lyp F1 rfl HCC rfl (by omega) (wanted_none rfl) (v := Value.bool false) (fun wr hwr => by simp only [execOp, (F1.eval 48 (by omega)).trans (show _ = Value.int .i64 ((0 : Nat) : Int) from by simp [upd, e0, e3, e4])]; simp [go_sem, Act.eval]) fun F2 => ?_
      refine lyp F2 rfl HCC rfl (by omega) (wanted_none rfl) (v := Value.bool false) (fun wr hwr => by simp only [execOp, (F2.eval 49 (by omega)).trans (show _ = Value.bool false from by simp [upd, e0, e3, e4])]; first | rfl | simp [go_sem]) fun F3 => ?_
      refine lnp F3 rfl HCC rfl (by omega) (want_no F3 rfl (e := 50) rfl (by omega) (show _ = Value.bool false from by simp [upd, e0, e3, e4]) (by decide)) fun F4 => ?_
      refine lnp F4 rfl HCC rfl (by omega) (want_no F4 rfl (e := 50) rfl (by omega) (show _ = Value.bool false from by simp [upd, e0, e3, e4]) (by decide)) fun F5 => ?_
      refine lnp F5 rfl HCC rfl (by omega) (want_no F5 rfl (e := 50) rfl (by omega) (show _ = Value.bool false from by simp [upd, e0, e3, e4]) (by decide)) fun F6 => ?_
      refine lnp F6 rfl HCC rfl (by omega) (want_no F6 rfl (e := 50) rfl (by omega) (show _ = Value.bool false from by simp [upd, e0, e3, e4]) (by decide)) fun F7 => ?_
      refine lnp F7 rfl HCC rfl (by omega) (want_no F7 rfl (e := 50) rfl (by omega) (show _ = Value.bool false from by simp [upd, e0, e3, e4]) (by decide)) fun F8 => ?_
      refine lnp F8 rfl HCC rfl (by omega) (want_no F8 rfl (e := 50) rfl (by omega) (show _ = Value.bool false from by simp [upd, e0, e3, e4]) (by decide)) fun F9 => ?_
      refine lnp F9 rfl HCC rfl (by omega) (want_no F9 rfl (e := 50) rfl (by omega) (show _ = Value.bool false from by simp [upd, e0, e3, e4]) (by decide)) fun F10 => ?_
      refine lnp F10 rfl HCC rfl (by omega) (want_no F10 rfl (e := 50) rfl (by omega) (show _ = Value.bool false from by simp [upd, e0, e3, e4]) (by decide)) fun F11 => ?_
      refine lnp F11 rfl HCC rfl (by omega) (want_no F11 rfl (e := 50) rfl (by omega) (show _ = Value.bool false from by simp [upd, e0, e3, e4]) (by decide)) fun F12 => ?_
      refine lnp F12 rfl HCC rfl (by omega) (want_no F12 rfl (e := 50) rfl (by omega) (show _ = Value.bool false from by simp [upd, e0, e3, e4]) (by decide)) fun F13 => ?_
      refine lnp F13 rfl HCC rfl (by omega) (want_no F13 rfl (e := 50) rfl (by omega) (show _ = Value.bool false from by simp [upd, e0, e3, e4]) (by decide)) fun F14 => ?_
      refine lnp F14 rfl HCC rfl (by omega) (want_no F14 rfl (e := 50) rfl (by omega) (show _ = Value.bool false from by simp [upd, e0, e3, e4]) (by decide)) fun F15 => ?_
      refine lyp F15 rfl HCC rfl (by omega) (wanted_none rfl) (v := Value.bool false) (fun wr hwr => by simp only [execOp, (F15.eval 50 (by omega)).trans (show _ = Value.bool false from by simp [upd, e0, e3, e4])]; simp [go_sem, Act.eval]) fun F16 => ?_
      obtain ⟨nq, hnq⟩ : ∃ nq, nq = 1 := ⟨_, rfl⟩
      replace HCC : ({ wr with drawn := wr.drawn + 1 } : World) = wr.drewN nq := by rw [hnq]; rfl
      refine ⟨fun _ => ⟨nq, HCC⟩, ?_⟩
      refine hK6 _ _ ?_
      clear F0 F1 F2 F3 F4 F5 F6 F7 F8 F9 F10 F11 F12 F13 F14 F15 F16 e0 e3 e4 
      simp only [Act.put, List.setIfInBounds_toArray, List.set_cons_succ, List.set_cons_zero]
      rw [HCC]
      clear HCC hnq
      go_wp2_with fail
      try rw [show ∀ a : Act, a.put none undef = a from fun _ => rfl]
      refine wp_region_mix (fun wq => ∃ q : Nat, wq = wr.drewN q) (fun i => i == 2 || i == 5) 5 (by kernel_rfl) rfl (by kernel_rfl) (by kernel_rfl) (by kernel_rfl) ?_
      refine withFrP (N := 88) rfl ?_
      intro f0 F0 hff
      have e0 : f0 0 = Value.pointer (some ⟨hb, 1, none⟩) := hff 0
      have e3 : f0 3 = Value.pointer (some ⟨bx, 0, none⟩) := hff 3
      have e4 : f0 4 = Value.int .i64 (0 : Nat) := hff 4
      clear hff
      have HCC : (fun wq => ∃ q : Nat, wq = wr.drewN q) (({ (wr.drewN nq) with drawn := (wr.drewN nq).drawn + 1 } : World)) := ⟨nq + 1, rfl⟩
      refine lyp F0 rfl HCC rfl (by omega) (wanted_none rfl) (v := Value.pointer (some ⟨hb, 1, none⟩)) (fun wr hwr => by simp only [execOp, (F0.eval 0 (by omega)).trans (show _ = Value.pointer (some ⟨hb, 1, none⟩) from by simp [upd, e0, e3, e4])]; first | rfl | simp [go_sem]) fun F1 => ?_
      refine lyp F1 rfl HCC rfl (by omega) (wanted_none rfl) (v := Value.int .i64 (0 : Nat)) (fun wr hwr => by simp only [execOp, (F1.eval 4 (by omega)).trans (show _ = Value.int .i64 (0 : Nat) from by simp [upd, e0, e3, e4])]; first | rfl | simp [go_sem]) fun F2 => ?_
      refine lcp F2 rfl HCC rfl (by omega) (wanted_none rfl) (g := 27) (args := #[Value.pointer (some ⟨hb, 1, none⟩), Value.int .i64 (0 : Nat)]) (by simp only [execOp, resolve, invoke, List.map_toArray, List.map_cons, List.map_nil, (F2.eval 76 (by omega)).trans (show _ = Value.pointer (some ⟨hb, 1, none⟩) from by simp [upd, e0, e3, e4]), (F2.eval 77 (by omega)).trans (show _ = Value.int .i64 (0 : Nat) from by simp [upd, e0, e3, e4])]; simp [go_sem, Act.eval]) (HAK.out (nq + 1)) ?_
      rintro e w1 ⟨rfl, q2, hw1⟩
      have HC1 : (fun wq => ∃ q : Nat, wq = wr.drewN q) w1 := ⟨nq + 1 + q2, by rw [hw1, World.drewN_drewN]⟩
      refine ⟨_, rfl, fun F3 => ?_⟩
      refine lyp F3 rfl HC1 rfl (by omega) (wanted_none rfl) (v := Value.agg #[.int .i64 r.s, .int .i64 r.i, .int .i64 r.e, .int .i64 r.v]) (fun wr hwr => by obtain ⟨q, rfl⟩ := hwr; simp only [execOp, (F3.eval 3 (by omega)).trans (show _ = Value.pointer (some ⟨bx, 0, none⟩) from by simp [upd, e0, e3, e4])]; simp [go_sem, b0, b1, b2, b3]) fun F4 => ?_
      refine lyp F4 rfl HC1 rfl (by omega) (wanted_none rfl) (v := Value.pointer (some ⟨hb, o, none⟩)) (fun wr hwr => by simp only [execOp, (F4.eval 78 (by omega)).trans (show _ = Value.pointer (some ⟨hb, o, none⟩) from by simp [upd, e0, e3, e4])]; simp [go_sem]) fun F5 => ?_
      obtain ⟨q3, hq3⟩ := HC1
      subst hq3
      clear hw1
      refine lst rfl ⟨q3, rfl⟩ rfl (wanted_none rfl) (w1 := ((((wr.drewN q3).setCell ⟨hb, o, none⟩ (.int .i64 r.s)).setCell ⟨hb, o + 1, none⟩ (.int .i64 r.i)).setCell ⟨hb, o + 2, none⟩ (.int .i64 r.e)).setCell ⟨hb, o + 3, none⟩ (.int .i64 r.v)) (by simp only [execOp, (F5.eval 80 (by omega)).trans (show _ = Value.pointer (some ⟨hb, o, none⟩) from by simp [upd, e0, e3, e4]), (F5.eval 79 (by omega)).trans (show _ = Value.agg #[.int .i64 r.s, .int .i64 r.i, .int .i64 r.e, .int .i64 r.v] from by simp [upd, e0, e3, e4])]; simp [go_sem, u0, u1, u2, u3, y0, y1, y2, y3]) ?_
      refine ⟨fun h => by omega, ?_⟩
      clear F0 F1 F2 F3 F4 F5 e0 e3 e4 HCC
      simp only [Act.put, List.setIfInBounds_toArray, List.set_cons_succ, List.set_cons_zero]
      obtain ⟨Z, hZ⟩ : ∃ Z, Z = ((((wr.drewN q3).setCell ⟨hb, o, none⟩ (.int .i64 r.s)).setCell ⟨hb, o + 1, none⟩ (.int .i64 r.i)).setCell ⟨hb, o + 2, none⟩ (.int .i64 r.e)).setCell ⟨hb, o + 3, none⟩ (.int .i64 r.v) := ⟨_, rfl⟩
      have z67 : Z.cell? ⟨hb, 67, none⟩ = some (.int .i64 (Rr.length : Nat)) := by
        rw [hZ]
        obtain ⟨⟨C, sl, h1, h2, _⟩, _⟩ := FIN.out q3
        rw [(set4_blk h1 o _ _ _ _).1.cell, set4_get _ _ _ _ _ _ _ (by rw [h2.size]; omega), if_neg (by omega), if_neg (by omega), if_neg (by omega), if_neg (by omega)]
        exact h2.c67
      have zf : Z.frozen? ⟨hb, 67, none⟩ = false := by
        rw [hZ]
        obtain ⟨⟨C, sl, h1, h2, _⟩, _⟩ := FIN.out q3
        exact (set4_blk h1 o _ _ _ _).1.frozen 67
      have HFN : Hid _ := (FIN.out q3).fin hff hm hRn HOO.out (Z.setCell ⟨hb, 67, none⟩ (.int .i64 ((Rr.length : Int) + 1))) (by rw [hZ])
      rw [← hZ]
      clear hZ u0 u1 u2 u3 y0 y1 y2 y3 b0 b1 b2 b3 FIN HAK HAT HSL
      go_wp2_with fail
      go_end0
      exact ⟨⟨_, rfl⟩, _, HPUT.out _ HINS.out, HFN.out.1, HFN.out.2⟩
    · obtain ⟨k, rfl⟩ : ∃ k', k = k' + 1 := ⟨k - 1, by omega⟩
      obtain ⟨x, hx⟩ : ∃ x, Rr[k]? = some x := ⟨Rr[k]'(by omega), List.getElem?_eq_getElem _⟩
      obtain ⟨o2, ho2⟩ : ∃ o2, o2 = 1 + 4 * ((ff + k) % m) := ⟨_, rfl⟩
      have ek : ((k + 1 : Nat) : Int) - 1 = (k : Nat) := by omega
      have HA1 : Hid (∀ q, Calls Try.prog 27 #[.pointer (some ⟨hb, 1, none⟩), .int .i64 (k : Nat)] (wr.drewN q) fun e w' => e = .returned (.pointer (some ⟨hb, o2, none⟩)) ∧ ∃ q', w' = (wr.drewN q).drewN q') := fun q => by
        have := HAT.out k (wr.drewN q) (k + 1) (hP.drew q) (by omega)
        rw [← ho2] at this
        exact this
      have hx4 : wr.cell? ⟨hb, o2, none⟩ = some (.int .i64 x.s) ∧ wr.cell? ⟨hb, o2 + 1, none⟩ = some (.int .i64 x.i) ∧ wr.cell? ⟨hb, o2 + 2, none⟩ = some (.int .i64 x.e) ∧ wr.cell? ⟨hb, o2 + 3, none⟩ = some (.int .i64 x.v) := by
        obtain ⟨⟨C, sl, h1, h2, h3, _⟩, _⟩ := hP
        rw [ho2]
        exact slot_cells h1 h2 _ (by have := Nat.mod_lt (ff + k) hmp; omega) (h3 k x (by omega) hx)
      have x0 : ∀ q, (wr.drewN q).cell? ⟨hb, o2, none⟩ = some (.int .i64 x.s) := fun q => hx4.1
      have x1 : ∀ q, (wr.drewN q).cell? ⟨hb, o2 + 1, none⟩ = some (.int .i64 x.i) := fun q => hx4.2.1
      have x2 : ∀ q, (wr.drewN q).cell? ⟨hb, o2 + 2, none⟩ = some (.int .i64 x.e) := fun q => hx4.2.2.1
      have x3 : ∀ q, (wr.drewN q).cell? ⟨hb, o2 + 3, none⟩ = some (.int .i64 x.v) := fun q => hx4.2.2.2
      clear hx4
      by_cases hgt : r.i < x.i
      · have HSH : Hid (∀ q : Nat, PSt hb m la ff r Rr bx w (((((wr.drewN q).setCell ⟨hb, o, none⟩ (.int .i64 x.s)).setCell ⟨hb, o + 1, none⟩ (.int .i64 x.i)).setCell ⟨hb, o + 2, none⟩ (.int .i64 x.e)).setCell ⟨hb, o + 3, none⟩ (.int .i64 x.v)) k) := fun q => (hP.drew q).shift hff hm hRn hx hgt HOO.out
        clear hP hx ho2 ek
        go_wp2_with fail
        rename_i K6 hK6
        try rw [show ∀ a : Act, a.put none undef = a from fun _ => rfl]
        refine wp_region_mix (fun wq => ∃ q : Nat, wq = wr.drewN q) (fun i => i == 6 || i == 99) 99 (by kernel_rfl) rfl (by kernel_rfl) (by kernel_rfl) (by kernel_rfl) ?_
        refine withFrP (N := 88) rfl ?_
        intro f0 F0 hff
        have e0 : f0 0 = Value.pointer (some ⟨hb, 1, none⟩) := hff 0
        have e3 : f0 3 = Value.pointer (some ⟨bx, 0, none⟩) := hff 3
        have e4 : f0 4 = Value.int .i64 ((k + 1 : Nat) : Int) := hff 4
        clear hff
        have HCC : (fun wq => ∃ q : Nat, wq = wr.drewN q) (({ wr with drawn := wr.drawn + 1 } : World)) := ⟨1, rfl⟩
        refine lyp F0 rfl HCC rfl (by omega) (wanted_none rfl) (v := Value.int .i64 ((k + 1 : Nat) : Int)) (fun wr hwr => by simp only [execOp, (F0.eval 4 (by omega)).trans (show _ = Value.int .i64 ((k + 1 : Nat) : Int) from by simp [upd, e0, e3, e4])]; first | rfl | simp [go_sem]) fun F1 => ?_
        refine lyp F1 rfl HCC rfl (by omega) (wanted_none rfl) (v := Value.bool true) (fun wr hwr => by simp only [execOp, (F1.eval 48 (by omega)).trans (show _ = Value.int .i64 ((k + 1 : Nat) : Int) from by simp [upd, e0, e3, e4])]; simp [go_sem, Act.eval]; try omega) fun F2 => ?_
        refine lyp F2 rfl HCC rfl (by omega) (wanted_none rfl) (v := Value.bool true) (fun wr hwr => by simp only [execOp, (F2.eval 49 (by omega)).trans (show _ = Value.bool true from by simp [upd, e0, e3, e4])]; first | rfl | simp [go_sem]) fun F3 => ?_
        refine lyp F3 rfl HCC rfl (by omega) (want_yes F3 rfl (e := 50) rfl (by omega) (show _ = Value.bool true from by simp [upd, e0, e3, e4])) (v := Value.pointer (some ⟨hb, 1, none⟩)) (fun wr hwr => by simp only [execOp, (F3.eval 0 (by omega)).trans (show _ = Value.pointer (some ⟨hb, 1, none⟩) from by simp [upd, e0, e3, e4])]; first | rfl | simp [go_sem]) fun F4 => ?_
        refine lyp F4 rfl HCC rfl (by omega) (want_yes F4 rfl (e := 50) rfl (by omega) (show _ = Value.bool true from by simp [upd, e0, e3, e4])) (v := Value.int .i64 ((k + 1 : Nat) : Int)) (fun wr hwr => by simp only [execOp, (F4.eval 4 (by omega)).trans (show _ = Value.int .i64 ((k + 1 : Nat) : Int) from by simp [upd, e0, e3, e4])]; first | rfl | simp [go_sem]) fun F5 => ?_
        refine lyp F5 rfl HCC rfl (by omega) (want_yes F5 rfl (e := 50) rfl (by omega) (show _ = Value.bool true from by simp [upd, e0, e3, e4])) (v := Value.int .i64 ((k : Nat) : Int)) (fun wr hwr => by simp only [execOp, (F5.eval 52 (by omega)).trans (show _ = Value.int .i64 ((k + 1 : Nat) : Int) from by simp [upd, e0, e3, e4])]; simp [go_sem, Act.eval]; try (rw [IntKind.wrap_i64]; omega)) fun F6 => ?_
        refine lcp F6 rfl HCC rfl (by omega) (want_yes F6 rfl (e := 50) rfl (by omega) (show _ = Value.bool true from by simp [upd, e0, e3, e4])) (g := 27) (args := #[Value.pointer (some ⟨hb, 1, none⟩), Value.int .i64 ((k : Nat) : Int)]) (by simp only [execOp, resolve, invoke, List.map_toArray, List.map_cons, List.map_nil, (F6.eval 51 (by omega)).trans (show _ = Value.pointer (some ⟨hb, 1, none⟩) from by simp [upd, e0, e3, e4]), (F6.eval 53 (by omega)).trans (show _ = Value.int .i64 ((k : Nat) : Int) from by simp [upd, e0, e3, e4])]; simp [go_sem, Act.eval]) (HA1.out 1) ?_
        rintro e w1 ⟨rfl, q2, hw1⟩
        have HC1 : (fun wq => ∃ q : Nat, wq = wr.drewN q) w1 := ⟨1 + q2, by rw [hw1, World.drewN_drewN]⟩
        refine ⟨_, rfl, fun F7 => ?_⟩
        refine lyp F7 rfl HC1 rfl (by omega) (want_yes F7 rfl (e := 50) rfl (by omega) (show _ = Value.bool true from by simp [upd, e0, e3, e4])) (v := Value.pointer (some ⟨hb, o2, none⟩)) (fun wr hwr => by simp only [execOp, (F7.eval 54 (by omega)).trans (show _ = Value.pointer (some ⟨hb, o2, none⟩) from by simp [upd, e0, e3, e4])]; simp [go_sem]) fun F8 => ?_
        refine lyp F8 rfl HC1 rfl (by omega) (want_yes F8 rfl (e := 50) rfl (by omega) (show _ = Value.bool true from by simp [upd, e0, e3, e4])) (v := Value.pointer (some ⟨hb, o2, none⟩)) (fun wr hwr => by simp only [execOp, (F8.eval 55 (by omega)).trans (show _ = Value.pointer (some ⟨hb, o2, none⟩) from by simp [upd, e0, e3, e4])]; simp [go_sem]) fun F9 => ?_
        refine lyp F9 rfl HC1 rfl (by omega) (want_yes F9 rfl (e := 50) rfl (by omega) (show _ = Value.bool true from by simp [upd, e0, e3, e4])) (v := Value.pointer (some ⟨hb, o2 + 1, none⟩)) (fun wr hwr => by simp only [execOp, (F9.eval 56 (by omega)).trans (show _ = Value.pointer (some ⟨hb, o2, none⟩) from by simp [upd, e0, e3, e4])]; simp [go_sem]) fun F10 => ?_
        refine lyp F10 rfl HC1 rfl (by omega) (want_yes F10 rfl (e := 50) rfl (by omega) (show _ = Value.bool true from by simp [upd, e0, e3, e4])) (v := Value.int .i64 x.i) (fun wr hwr => by obtain ⟨q, rfl⟩ := hwr; simp only [execOp, (F10.eval 57 (by omega)).trans (show _ = Value.pointer (some ⟨hb, o2 + 1, none⟩) from by simp [upd, e0, e3, e4])]; simp [go_sem, x1]) fun F11 => ?_
        refine lyp F11 rfl HC1 rfl (by omega) (want_yes F11 rfl (e := 50) rfl (by omega) (show _ = Value.bool true from by simp [upd, e0, e3, e4])) (v := Value.pointer (some ⟨bx, 0, none⟩)) (fun wr hwr => by simp only [execOp, (F11.eval 3 (by omega)).trans (show _ = Value.pointer (some ⟨bx, 0, none⟩) from by simp [upd, e0, e3, e4])]; simp [go_sem]) fun F12 => ?_
        refine lyp F12 rfl HC1 rfl (by omega) (want_yes F12 rfl (e := 50) rfl (by omega) (show _ = Value.bool true from by simp [upd, e0, e3, e4])) (v := Value.pointer (some ⟨bx, 1, none⟩)) (fun wr hwr => by simp only [execOp, (F12.eval 59 (by omega)).trans (show _ = Value.pointer (some ⟨bx, 0, none⟩) from by simp [upd, e0, e3, e4])]; simp [go_sem]) fun F13 => ?_
        refine lyp F13 rfl HC1 rfl (by omega) (want_yes F13 rfl (e := 50) rfl (by omega) (show _ = Value.bool true from by simp [upd, e0, e3, e4])) (v := Value.int .i64 r.i) (fun wr hwr => by obtain ⟨q, rfl⟩ := hwr; simp only [execOp, (F13.eval 60 (by omega)).trans (show _ = Value.pointer (some ⟨bx, 1, none⟩) from by simp [upd, e0, e3, e4])]; simp [go_sem, b1]) fun F14 => ?_
        refine lyp F14 rfl HC1 rfl (by omega) (want_yes F14 rfl (e := 50) rfl (by omega) (show _ = Value.bool true from by simp [upd, e0, e3, e4])) (v := Value.bool true) (fun wr hwr => by simp only [execOp, (F14.eval 58 (by omega)).trans (show _ = Value.int .i64 x.i from by simp [upd, e0, e3, e4]), (F14.eval 61 (by omega)).trans (show _ = Value.int .i64 r.i from by simp [upd, e0, e3, e4])]; simp [go_sem, Act.eval]; omega) fun F15 => ?_
        refine lyp F15 rfl HC1 rfl (by omega) (wanted_none rfl) (v := Value.bool true) (fun wr hwr => by simp only [execOp, (F15.eval 50 (by omega)).trans (show _ = Value.bool true from by simp [upd, e0, e3, e4]), (F15.eval 62 (by omega)).trans (show _ = Value.bool true from by simp [upd, e0, e3, e4])]; simp [go_sem, Act.eval]) fun F16 => ?_
        obtain ⟨nq, hnq⟩ := HC1
        subst hnq
        refine ⟨fun _ => ⟨nq, rfl⟩, ?_⟩
        refine hK6 _ _ ?_
        clear F0 F1 F2 F3 F4 F5 F6 F7 F8 F9 F10 F11 F12 F13 F14 F15 F16 e0 e3 e4 HCC
        simp only [Act.put, List.setIfInBounds_toArray, List.set_cons_succ, List.set_cons_zero]
        clear hw1
        go_wp2_with fail
        rw [show ((k : Int) + 1) = ((k + 1 : Nat) : Int) from rfl]
        refine Calls.mono (HAK.out nq) ?_
        rintro e w1 ⟨rfl, q2, rfl⟩
        rw [World.drewN_drewN]
        go_wp2_with fail
        refine Calls.mono (HA1.out _) ?_
        rintro e w1 ⟨rfl, q3, rfl⟩
        rw [World.drewN_drewN]
        clear HAK HA1
        go_wp2_with fail
        go_roundw
        case rel => exact ⟨k, by go_num, HSH.out _⟩
        case measure => simp [intOf]
      · have HINS : Hid (Ins r Rr (Rr.take (k + 1) ++ r :: Rr.drop (k + 1))) := ⟨k + 1, HKB.out, rfl, fun x hx => by
          obtain ⟨j, hj, rfl⟩ := List.getElem_of_mem hx
          have := hP.gt (k + 1 + j) _ (by omega) (List.getElem?_eq_getElem (by simp at hj; omega))
          simpa using this, Or.inr ⟨x, by simpa using hx, by omega⟩⟩
        clear hP hx ho2 ek
        go_wp2_with fail
        rename_i K6 hK6
        try rw [show ∀ a : Act, a.put none undef = a from fun _ => rfl]
        refine wp_region_mix (fun wq => ∃ q : Nat, wq = wr.drewN q) (fun i => i == 6 || i == 99) 99 (by kernel_rfl) rfl (by kernel_rfl) (by kernel_rfl) (by kernel_rfl) ?_
        refine withFrP (N := 88) rfl ?_
        intro f0 F0 hff
        have e0 : f0 0 = Value.pointer (some ⟨hb, 1, none⟩) := hff 0
        have e3 : f0 3 = Value.pointer (some ⟨bx, 0, none⟩) := hff 3
        have e4 : f0 4 = Value.int .i64 ((k + 1 : Nat) : Int) := hff 4
        clear hff
        have HCC : (fun wq => ∃ q : Nat, wq = wr.drewN q) (({ wr with drawn := wr.drawn + 1 } : World)) := ⟨1, rfl⟩
        refine lyp F0 rfl HCC rfl (by omega) (wanted_none rfl) (v := Value.int .i64 ((k + 1 : Nat) : Int)) (fun wr hwr => by simp only [execOp, (F0.eval 4 (by omega)).trans (show _ = Value.int .i64 ((k + 1 : Nat) : Int) from by simp [upd, e0, e3, e4])]; first | rfl | simp [go_sem]) fun F1 => ?_
        refine lyp F1 rfl HCC rfl (by omega) (wanted_none rfl) (v := Value.bool true) (fun wr hwr => by simp only [execOp, (F1.eval 48 (by omega)).trans (show _ = Value.int .i64 ((k + 1 : Nat) : Int) from by simp [upd, e0, e3, e4])]; simp [go_sem, Act.eval]; try omega) fun F2 => ?_
        refine lyp F2 rfl HCC rfl (by omega) (wanted_none rfl) (v := Value.bool true) (fun wr hwr => by simp only [execOp, (F2.eval 49 (by omega)).trans (show _ = Value.bool true from by simp [upd, e0, e3, e4])]; first | rfl | simp [go_sem]) fun F3 => ?_
        refine lyp F3 rfl HCC rfl (by omega) (want_yes F3 rfl (e := 50) rfl (by omega) (show _ = Value.bool true from by simp [upd, e0, e3, e4])) (v := Value.pointer (some ⟨hb, 1, none⟩)) (fun wr hwr => by simp only [execOp, (F3.eval 0 (by omega)).trans (show _ = Value.pointer (some ⟨hb, 1, none⟩) from by simp [upd, e0, e3, e4])]; first | rfl | simp [go_sem]) fun F4 => ?_
        refine lyp F4 rfl HCC rfl (by omega) (want_yes F4 rfl (e := 50) rfl (by omega) (show _ = Value.bool true from by simp [upd, e0, e3, e4])) (v := Value.int .i64 ((k + 1 : Nat) : Int)) (fun wr hwr => by simp only [execOp, (F4.eval 4 (by omega)).trans (show _ = Value.int .i64 ((k + 1 : Nat) : Int) from by simp [upd, e0, e3, e4])]; first | rfl | simp [go_sem]) fun F5 => ?_
        refine lyp F5 rfl HCC rfl (by omega) (want_yes F5 rfl (e := 50) rfl (by omega) (show _ = Value.bool true from by simp [upd, e0, e3, e4])) (v := Value.int .i64 ((k : Nat) : Int)) (fun wr hwr => by simp only [execOp, (F5.eval 52 (by omega)).trans (show _ = Value.int .i64 ((k + 1 : Nat) : Int) from by simp [upd, e0, e3, e4])]; simp [go_sem, Act.eval]; try (rw [IntKind.wrap_i64]; omega)) fun F6 => ?_
        refine lcp F6 rfl HCC rfl (by omega) (want_yes F6 rfl (e := 50) rfl (by omega) (show _ = Value.bool true from by simp [upd, e0, e3, e4])) (g := 27) (args := #[Value.pointer (some ⟨hb, 1, none⟩), Value.int .i64 ((k : Nat) : Int)]) (by simp only [execOp, resolve, invoke, List.map_toArray, List.map_cons, List.map_nil, (F6.eval 51 (by omega)).trans (show _ = Value.pointer (some ⟨hb, 1, none⟩) from by simp [upd, e0, e3, e4]), (F6.eval 53 (by omega)).trans (show _ = Value.int .i64 ((k : Nat) : Int) from by simp [upd, e0, e3, e4])]; simp [go_sem, Act.eval]) (HA1.out 1) ?_
        rintro e w1 ⟨rfl, q2, hw1⟩
        have HC1 : (fun wq => ∃ q : Nat, wq = wr.drewN q) w1 := ⟨1 + q2, by rw [hw1, World.drewN_drewN]⟩
        refine ⟨_, rfl, fun F7 => ?_⟩
        refine lyp F7 rfl HC1 rfl (by omega) (want_yes F7 rfl (e := 50) rfl (by omega) (show _ = Value.bool true from by simp [upd, e0, e3, e4])) (v := Value.pointer (some ⟨hb, o2, none⟩)) (fun wr hwr => by simp only [execOp, (F7.eval 54 (by omega)).trans (show _ = Value.pointer (some ⟨hb, o2, none⟩) from by simp [upd, e0, e3, e4])]; simp [go_sem]) fun F8 => ?_
        refine lyp F8 rfl HC1 rfl (by omega) (want_yes F8 rfl (e := 50) rfl (by omega) (show _ = Value.bool true from by simp [upd, e0, e3, e4])) (v := Value.pointer (some ⟨hb, o2, none⟩)) (fun wr hwr => by simp only [execOp, (F8.eval 55 (by omega)).trans (show _ = Value.pointer (some ⟨hb, o2, none⟩) from by simp [upd, e0, e3, e4])]; simp [go_sem]) fun F9 => ?_
        refine lyp F9 rfl HC1 rfl (by omega) (want_yes F9 rfl (e := 50) rfl (by omega) (show _ = Value.bool true from by simp [upd, e0, e3, e4])) (v := Value.pointer (some ⟨hb, o2 + 1, none⟩)) (fun wr hwr => by simp only [execOp, (F9.eval 56 (by omega)).trans (show _ = Value.pointer (some ⟨hb, o2, none⟩) from by simp [upd, e0, e3, e4])]; simp [go_sem]) fun F10 => ?_
        refine lyp F10 rfl HC1 rfl (by omega) (want_yes F10 rfl (e := 50) rfl (by omega) (show _ = Value.bool true from by simp [upd, e0, e3, e4])) (v := Value.int .i64 x.i) (fun wr hwr => by obtain ⟨q, rfl⟩ := hwr; simp only [execOp, (F10.eval 57 (by omega)).trans (show _ = Value.pointer (some ⟨hb, o2 + 1, none⟩) from by simp [upd, e0, e3, e4])]; simp [go_sem, x1]) fun F11 => ?_
        refine lyp F11 rfl HC1 rfl (by omega) (want_yes F11 rfl (e := 50) rfl (by omega) (show _ = Value.bool true from by simp [upd, e0, e3, e4])) (v := Value.pointer (some ⟨bx, 0, none⟩)) (fun wr hwr => by simp only [execOp, (F11.eval 3 (by omega)).trans (show _ = Value.pointer (some ⟨bx, 0, none⟩) from by simp [upd, e0, e3, e4])]; simp [go_sem]) fun F12 => ?_
        refine lyp F12 rfl HC1 rfl (by omega) (want_yes F12 rfl (e := 50) rfl (by omega) (show _ = Value.bool true from by simp [upd, e0, e3, e4])) (v := Value.pointer (some ⟨bx, 1, none⟩)) (fun wr hwr => by simp only [execOp, (F12.eval 59 (by omega)).trans (show _ = Value.pointer (some ⟨bx, 0, none⟩) from by simp [upd, e0, e3, e4])]; simp [go_sem]) fun F13 => ?_
        refine lyp F13 rfl HC1 rfl (by omega) (want_yes F13 rfl (e := 50) rfl (by omega) (show _ = Value.bool true from by simp [upd, e0, e3, e4])) (v := Value.int .i64 r.i) (fun wr hwr => by obtain ⟨q, rfl⟩ := hwr; simp only [execOp, (F13.eval 60 (by omega)).trans (show _ = Value.pointer (some ⟨bx, 1, none⟩) from by simp [upd, e0, e3, e4])]; simp [go_sem, b1]) fun F14 => ?_
        refine lyp F14 rfl HC1 rfl (by omega) (want_yes F14 rfl (e := 50) rfl (by omega) (show _ = Value.bool true from by simp [upd, e0, e3, e4])) (v := Value.bool false) (fun wr hwr => by simp only [execOp, (F14.eval 58 (by omega)).trans (show _ = Value.int .i64 x.i from by simp [upd, e0, e3, e4]), (F14.eval 61 (by omega)).trans (show _ = Value.int .i64 r.i from by simp [upd, e0, e3, e4])]; simp [go_sem, Act.eval]; omega) fun F15 => ?_
        refine lyp F15 rfl HC1 rfl (by omega) (wanted_none rfl) (v := Value.bool false) (fun wr hwr => by simp only [execOp, (F15.eval 50 (by omega)).trans (show _ = Value.bool true from by simp [upd, e0, e3, e4]), (F15.eval 62 (by omega)).trans (show _ = Value.bool false from by simp [upd, e0, e3, e4])]; simp [go_sem, Act.eval]) fun F16 => ?_
        obtain ⟨nq, hnq⟩ := HC1
        subst hnq
        refine ⟨fun _ => ⟨nq, rfl⟩, ?_⟩
        refine hK6 _ _ ?_
        clear F0 F1 F2 F3 F4 F5 F6 F7 F8 F9 F10 F11 F12 F13 F14 F15 F16 e0 e3 e4 HCC
        simp only [Act.put, List.setIfInBounds_toArray, List.set_cons_succ, List.set_cons_zero]
        clear hw1
        go_wp2_with fail
        try rw [show ∀ a : Act, a.put none undef = a from fun _ => rfl]
        refine wp_region_mix (fun wq => ∃ q : Nat, wq = wr.drewN q) (fun i => i == 2 || i == 5) 5 (by kernel_rfl) rfl (by kernel_rfl) (by kernel_rfl) (by kernel_rfl) ?_
        refine withFrP (N := 88) rfl ?_
        intro f0 F0 hff
        have e0 : f0 0 = Value.pointer (some ⟨hb, 1, none⟩) := hff 0
        have e3 : f0 3 = Value.pointer (some ⟨bx, 0, none⟩) := hff 3
        have e4 : f0 4 = Value.int .i64 (k + 1 : Nat) := hff 4
        clear hff
        have HCC : (fun wq => ∃ q : Nat, wq = wr.drewN q) (({ (wr.drewN nq) with drawn := (wr.drewN nq).drawn + 1 } : World)) := ⟨nq + 1, rfl⟩
        refine lyp F0 rfl HCC rfl (by omega) (wanted_none rfl) (v := Value.pointer (some ⟨hb, 1, none⟩)) (fun wr hwr => by simp only [execOp, (F0.eval 0 (by omega)).trans (show _ = Value.pointer (some ⟨hb, 1, none⟩) from by simp [upd, e0, e3, e4])]; first | rfl | simp [go_sem]) fun F1 => ?_
        refine lyp F1 rfl HCC rfl (by omega) (wanted_none rfl) (v := Value.int .i64 (k + 1 : Nat)) (fun wr hwr => by simp only [execOp, (F1.eval 4 (by omega)).trans (show _ = Value.int .i64 (k + 1 : Nat) from by simp [upd, e0, e3, e4])]; first | rfl | simp [go_sem]) fun F2 => ?_
        refine lcp F2 rfl HCC rfl (by omega) (wanted_none rfl) (g := 27) (args := #[Value.pointer (some ⟨hb, 1, none⟩), Value.int .i64 (k + 1 : Nat)]) (by simp only [execOp, resolve, invoke, List.map_toArray, List.map_cons, List.map_nil, (F2.eval 76 (by omega)).trans (show _ = Value.pointer (some ⟨hb, 1, none⟩) from by simp [upd, e0, e3, e4]), (F2.eval 77 (by omega)).trans (show _ = Value.int .i64 (k + 1 : Nat) from by simp [upd, e0, e3, e4])]; simp [go_sem, Act.eval]) (HAK.out (nq + 1)) ?_
        rintro e w1 ⟨rfl, q2, hw1⟩
        have HC1 : (fun wq => ∃ q : Nat, wq = wr.drewN q) w1 := ⟨nq + 1 + q2, by rw [hw1, World.drewN_drewN]⟩
        refine ⟨_, rfl, fun F3 => ?_⟩
        refine lyp F3 rfl HC1 rfl (by omega) (wanted_none rfl) (v := Value.agg #[.int .i64 r.s, .int .i64 r.i, .int .i64 r.e, .int .i64 r.v]) (fun wr hwr => by obtain ⟨q, rfl⟩ := hwr; simp only [execOp, (F3.eval 3 (by omega)).trans (show _ = Value.pointer (some ⟨bx, 0, none⟩) from by simp [upd, e0, e3, e4])]; simp [go_sem, b0, b1, b2, b3]) fun F4 => ?_
        refine lyp F4 rfl HC1 rfl (by omega) (wanted_none rfl) (v := Value.pointer (some ⟨hb, o, none⟩)) (fun wr hwr => by simp only [execOp, (F4.eval 78 (by omega)).trans (show _ = Value.pointer (some ⟨hb, o, none⟩) from by simp [upd, e0, e3, e4])]; simp [go_sem]) fun F5 => ?_
        obtain ⟨q3, hq3⟩ := HC1
        subst hq3
        clear hw1
        refine lst rfl ⟨q3, rfl⟩ rfl (wanted_none rfl) (w1 := ((((wr.drewN q3).setCell ⟨hb, o, none⟩ (.int .i64 r.s)).setCell ⟨hb, o + 1, none⟩ (.int .i64 r.i)).setCell ⟨hb, o + 2, none⟩ (.int .i64 r.e)).setCell ⟨hb, o + 3, none⟩ (.int .i64 r.v)) (by simp only [execOp, (F5.eval 80 (by omega)).trans (show _ = Value.pointer (some ⟨hb, o, none⟩) from by simp [upd, e0, e3, e4]), (F5.eval 79 (by omega)).trans (show _ = Value.agg #[.int .i64 r.s, .int .i64 r.i, .int .i64 r.e, .int .i64 r.v] from by simp [upd, e0, e3, e4])]; simp [go_sem, u0, u1, u2, u3, y0, y1, y2, y3]) ?_
        refine ⟨fun h => by omega, ?_⟩
        clear F0 F1 F2 F3 F4 F5 e0 e3 e4 HCC
        simp only [Act.put, List.setIfInBounds_toArray, List.set_cons_succ, List.set_cons_zero]
        obtain ⟨Z, hZ⟩ : ∃ Z, Z = ((((wr.drewN q3).setCell ⟨hb, o, none⟩ (.int .i64 r.s)).setCell ⟨hb, o + 1, none⟩ (.int .i64 r.i)).setCell ⟨hb, o + 2, none⟩ (.int .i64 r.e)).setCell ⟨hb, o + 3, none⟩ (.int .i64 r.v) := ⟨_, rfl⟩
        have z67 : Z.cell? ⟨hb, 67, none⟩ = some (.int .i64 (Rr.length : Nat)) := by
          rw [hZ]
          obtain ⟨⟨C, sl, h1, h2, _⟩, _⟩ := FIN.out q3
          rw [(set4_blk h1 o _ _ _ _).1.cell, set4_get _ _ _ _ _ _ _ (by rw [h2.size]; omega), if_neg (by omega), if_neg (by omega), if_neg (by omega), if_neg (by omega)]
          exact h2.c67
        have zf : Z.frozen? ⟨hb, 67, none⟩ = false := by
          rw [hZ]
          obtain ⟨⟨C, sl, h1, h2, _⟩, _⟩ := FIN.out q3
          exact (set4_blk h1 o _ _ _ _).1.frozen 67
        have HFN : Hid _ := (FIN.out q3).fin hff hm hRn HOO.out (Z.setCell ⟨hb, 67, none⟩ (.int .i64 ((Rr.length : Int) + 1))) (by rw [hZ])
        rw [← hZ]
        clear hZ u0 u1 u2 u3 y0 y1 y2 y3 b0 b1 b2 b3 FIN HAK HAT HSL
        go_wp2_with fail
        go_end0
        exact ⟨⟨_, rfl⟩, _, HPUT.out _ HINS.out, HFN.out.1, HFN.out.2⟩
set_option maxRecDepth 100000 in
set_option maxHeartbeats 6400000 in
theorem put_full {hb m : Nat} {la : Int} {R : List Rp} (r : Rp) (w : World) (hH : Hist w hb m la R) (hmp : 0 < m) (hRl : R.length = m) :
    Calls Try.prog 22 #[.pointer (some ⟨hb, 1, none⟩), .agg (rpA r)] w fun e w' => (∃ v, e = .returned v) ∧ ∃ R', RPut m r R R' ∧ Hist w' hb m la R' ∧ Chg (fun k => k = hb) w w' := by
  have HHI : Hid (Hist w hb m la R) := hH
  obtain ⟨C, sl, f, hB, hC, hf, hm, hl, hR⟩ := hH
  unfold rpA
  obtain ⟨X, hX⟩ : ∃ X, X = w.alloc (.cells #[.int .i64 r.s, .int .i64 r.i, .int .i64 r.e, .int .i64 r.v] 36) := ⟨_, rfl⟩
  have hbX : Below w.heap.size w X := by rw [hX]; exact (Below.refl _ _).alloc (Nat.le_refl _) _
  obtain ⟨bx, hbx⟩ : ∃ bx, bx = w.heap.size := ⟨_, rfl⟩
  have hXB : Blk X bx #[.int .i64 r.s, .int .i64 r.i, .int .i64 r.e, .int .i64 r.v] 36 := by rw [hX, hbx]; exact heap_alloc_new w _
  have hBX : Blk X hb C 67 := hB.below hbX hB.lt
  have HBX : Hid (Blk X hb C 67) := hBX
  have HXB : Hid (Blk X bx #[.int .i64 r.s, .int .i64 r.i, .int .i64 r.e, .int .i64 r.v] 36) := hXB
  have HC' : Hid (HC C la sl m f R.length) := hC
  have HR : Hid (∀ i x, R[i]? = some x → sl ((f + i) % m) = x) := hR
  have HCG : Hid (Chg (fun k => k = hb) w X) := Chg.ofBelow _ hbX
  have HHX : Hid (Hist X hb m la R) := HHI.out.same (hbX.block hb HHI.out.lt)
  have c67 : (w.alloc (.cells #[.int .i64 r.s, .int .i64 r.i, .int .i64 r.e, .int .i64 r.v] 36)).cell? ⟨hb, 67, none⟩ = some (.int .i64 (R.length : Nat)) := by rw [← hX]; exact (hBX.cell 67).trans hC.c67
  have c65 : (w.alloc (.cells #[.int .i64 r.s, .int .i64 r.i, .int .i64 r.e, .int .i64 r.v] 36)).cell? ⟨hb, 65, none⟩ = some (.int .i64 (m : Nat)) := by rw [← hX]; exact (hBX.cell 65).trans hC.c65
  have hne : ((R.length : Nat) : Int) = (m : Nat) := by omega
  obtain ⟨x, hx⟩ : ∃ x, R[0]? = some x := ⟨R[0]'(by omega), List.getElem?_eq_getElem _⟩
  obtain ⟨x0, x1, x2, x3⟩ := slot_cells hBX hC ((f + 0) % m) (by have := Nat.mod_lt (f + 0) hmp; omega) (hR 0 x hx)
  obtain ⟨o2, ho2⟩ : ∃ o2, o2 = 1 + 4 * ((f + 0) % m) := ⟨_, rfl⟩
  rw [← ho2] at x0 x1 x2 x3
  have HAT : Hid (∀ q, Calls Try.prog 27 #[.pointer (some ⟨hb, 1, none⟩), .int .i64 0] (X.drewN q) fun e w' => e = .returned (.pointer (some ⟨hb, o2, none⟩)) ∧ ∃ q', w' = (X.drewN q).drewN q') := fun q => by
    rw [ho2]
    exact at_any 0 (X.drewN q) (show Blk (X.drewN q) hb C 67 from hBX) hC hf hm (by omega)
  have q1 : ∀ q, (X.drewN q).cell? ⟨hb, o2 + 1, none⟩ = some (.int .i64 x.i) := fun q => x1
  have b1 : ∀ q, (X.drewN q).cell? ⟨bx, 1, none⟩ = some (.int .i64 r.i) := fun q => hXB.cell 1
  have HX0 : Hid (R[0]? = some x) := hx
  clear hB hC hBX hXB hbX hR hx x0 x1 x2 x3 ho2
  go_enter Try.func22, Try.ntmps22
  go_wp2_with fail
  simp only [← hX, ← hbx] at c65 c67 ⊢
  clear hX hbx
  go_quiet (fail)
  go_wp2_with fail
  by_cases hlt : r.i < x.i
  · have HPUT : Hid (RPut m r R R) := Or.inl ⟨hRl, ⟨x, HX0.out, hlt⟩, rfl⟩
    rename_i K2 hK2
    try rw [show ∀ a : Act, a.put none undef = a from fun _ => rfl]
    refine wp_region_mix (fun wq => ∃ q : Nat, wq = X.drewN q) (fun i => i == 4 || i == 99) 99 (by kernel_rfl) rfl (by kernel_rfl) (by kernel_rfl) (by kernel_rfl) ?_
    refine withFrP (N := 88) rfl ?_
    intro f0 F0 hff
    have e0 : f0 0 = Value.pointer (some ⟨hb, 1, none⟩) := hff 0
    have e3 : f0 3 = Value.pointer (some ⟨bx, 0, none⟩) := hff 3
    clear hff
    have HCC : (fun wq => ∃ q : Nat, wq = X.drewN q) (({ (X.drewN nq) with drawn := (X.drewN nq).drawn + 1 } : World)) := ⟨nq + 1, rfl⟩
    refine lyp F0 rfl HCC rfl (by omega) (wanted_none rfl) (v := Value.pointer (some ⟨bx, 0, none⟩)) (fun wr hwr => by simp only [execOp, (F0.eval 3 (by omega)).trans (show _ = Value.pointer (some ⟨bx, 0, none⟩) from by simp [upd, e0, e3])]; simp [go_sem]) fun F1 => ?_
    refine lyp F1 rfl HCC rfl (by omega) (wanted_none rfl) (v := Value.pointer (some ⟨bx, 1, none⟩)) (fun wr hwr => by simp only [execOp, (F1.eval 14 (by omega)).trans (show _ = Value.pointer (some ⟨bx, 0, none⟩) from by simp [upd, e0, e3])]; simp [go_sem]) fun F2 => ?_
    refine lyp F2 rfl HCC rfl (by omega) (wanted_none rfl) (v := Value.int .i64 r.i) (fun wr hwr => by obtain ⟨q, rfl⟩ := hwr; simp only [execOp, (F2.eval 15 (by omega)).trans (show _ = Value.pointer (some ⟨bx, 1, none⟩) from by simp [upd, e0, e3])]; simp [go_sem, b1]) fun F3 => ?_
    refine lyp F3 rfl HCC rfl (by omega) (wanted_none rfl) (v := Value.pointer (some ⟨hb, 1, none⟩)) (fun wr hwr => by simp only [execOp, (F3.eval 0 (by omega)).trans (show _ = Value.pointer (some ⟨hb, 1, none⟩) from by simp [upd, e0, e3])]; first | rfl | simp [go_sem]) fun F4 => ?_
    refine lcp F4 rfl HCC rfl (by omega) (wanted_none rfl) (g := 27) (args := #[Value.pointer (some ⟨hb, 1, none⟩), Value.int .i64 0]) (by simp only [execOp, resolve, invoke, List.map_toArray, List.map_cons, List.map_nil, (F4.eval 17 (by omega)).trans (show _ = Value.pointer (some ⟨hb, 1, none⟩) from by simp [upd, e0, e3])]; simp [go_sem, Act.eval]) (HAT.out (nq + 1)) ?_
    rintro e w1 ⟨rfl, q2, hw1⟩
    have HC1 : (fun wq => ∃ q : Nat, wq = X.drewN q) w1 := ⟨nq + 1 + q2, by rw [hw1, World.drewN_drewN]⟩
    refine ⟨_, rfl, fun F5 => ?_⟩
    refine lyp F5 rfl HC1 rfl (by omega) (wanted_none rfl) (v := Value.pointer (some ⟨hb, o2, none⟩)) (fun wr hwr => by simp only [execOp, (F5.eval 18 (by omega)).trans (show _ = Value.pointer (some ⟨hb, o2, none⟩) from by simp [upd, e0, e3])]; simp [go_sem]) fun F6 => ?_
    refine lyp F6 rfl HC1 rfl (by omega) (wanted_none rfl) (v := Value.pointer (some ⟨hb, o2, none⟩)) (fun wr hwr => by simp only [execOp, (F6.eval 19 (by omega)).trans (show _ = Value.pointer (some ⟨hb, o2, none⟩) from by simp [upd, e0, e3])]; simp [go_sem]) fun F7 => ?_
    refine lyp F7 rfl HC1 rfl (by omega) (wanted_none rfl) (v := Value.pointer (some ⟨hb, o2 + 1, none⟩)) (fun wr hwr => by simp only [execOp, (F7.eval 20 (by omega)).trans (show _ = Value.pointer (some ⟨hb, o2, none⟩) from by simp [upd, e0, e3])]; simp [go_sem]) fun F8 => ?_
    refine lyp F8 rfl HC1 rfl (by omega) (wanted_none rfl) (v := Value.int .i64 x.i) (fun wr hwr => by obtain ⟨q, rfl⟩ := hwr; simp only [execOp, (F8.eval 21 (by omega)).trans (show _ = Value.pointer (some ⟨hb, o2 + 1, none⟩) from by simp [upd, e0, e3])]; simp [go_sem, q1]) fun F9 => ?_
    refine lyp F9 rfl HC1 rfl (by omega) (wanted_none rfl) (v := Value.bool true) (fun wr hwr => by simp only [execOp, (F9.eval 16 (by omega)).trans (show _ = Value.int .i64 r.i from by simp [upd, e0, e3]), (F9.eval 22 (by omega)).trans (show _ = Value.int .i64 x.i from by simp [upd, e0, e3])]; simp [go_sem, Act.eval]; omega) fun F10 => ?_
    obtain ⟨nr, hnq⟩ := HC1
    subst hnq
    refine ⟨fun _ => ⟨nr, rfl⟩, ?_⟩
    refine hK2 _ _ ?_
    clear F0 F1 F2 F3 F4 F5 F6 F7 F8 F9 F10 e0 e3 HCC
    simp only [Act.put, List.setIfInBounds_toArray, List.set_cons_succ, List.set_cons_zero]
    clear hw1
    have HFIN : Hid (Hist (X.drewN nr) hb m la R) := HHX.out
    have HC2 : Hid (Chg (fun k => k = hb) w (X.drewN nr)) := HCG.out.drewN nr
    clear c65 c67 q1 b1
    go_wp2_with fail
    refine bodyPost_ret (results_none rfl _ _ _) rfl ?_
    exact ⟨⟨_, rfl⟩, R, HPUT.out, HFIN.out, HC2.out⟩
  · have HLE : Hid (x.i ≤ r.i) := show x.i ≤ r.i from by omega
    rename_i K2 hK2
    try rw [show ∀ a : Act, a.put none undef = a from fun _ => rfl]
    refine wp_region_mix (fun wq => ∃ q : Nat, wq = X.drewN q) (fun i => i == 4 || i == 99) 99 (by kernel_rfl) rfl (by kernel_rfl) (by kernel_rfl) (by kernel_rfl) ?_
    refine withFrP (N := 88) rfl ?_
    intro f0 F0 hff
    have e0 : f0 0 = Value.pointer (some ⟨hb, 1, none⟩) := hff 0
    have e3 : f0 3 = Value.pointer (some ⟨bx, 0, none⟩) := hff 3
    clear hff
    have HCC : (fun wq => ∃ q : Nat, wq = X.drewN q) (({ (X.drewN nq) with drawn := (X.drewN nq).drawn + 1 } : World)) := ⟨nq + 1, rfl⟩
    refine lyp F0 rfl HCC rfl (by omega) (wanted_none rfl) (v := Value.pointer (some ⟨bx, 0, none⟩)) (fun wr hwr => by simp only [execOp, (F0.eval 3 (by omega)).trans (show _ = Value.pointer (some ⟨bx, 0, none⟩) from by simp [upd, e0, e3])]; simp [go_sem]) fun F1 => ?_
    refine lyp F1 rfl HCC rfl (by omega) (wanted_none rfl) (v := Value.pointer (some ⟨bx, 1, none⟩)) (fun wr hwr => by simp only [execOp, (F1.eval 14 (by omega)).trans (show _ = Value.pointer (some ⟨bx, 0, none⟩) from by simp [upd, e0, e3])]; simp [go_sem]) fun F2 => ?_
    refine lyp F2 rfl HCC rfl (by omega) (wanted_none rfl) (v := Value.int .i64 r.i) (fun wr hwr => by obtain ⟨q, rfl⟩ := hwr; simp only [execOp, (F2.eval 15 (by omega)).trans (show _ = Value.pointer (some ⟨bx, 1, none⟩) from by simp [upd, e0, e3])]; simp [go_sem, b1]) fun F3 => ?_
    refine lyp F3 rfl HCC rfl (by omega) (wanted_none rfl) (v := Value.pointer (some ⟨hb, 1, none⟩)) (fun wr hwr => by simp only [execOp, (F3.eval 0 (by omega)).trans (show _ = Value.pointer (some ⟨hb, 1, none⟩) from by simp [upd, e0, e3])]; first | rfl | simp [go_sem]) fun F4 => ?_
    refine lcp F4 rfl HCC rfl (by omega) (wanted_none rfl) (g := 27) (args := #[Value.pointer (some ⟨hb, 1, none⟩), Value.int .i64 0]) (by simp only [execOp, resolve, invoke, List.map_toArray, List.map_cons, List.map_nil, (F4.eval 17 (by omega)).trans (show _ = Value.pointer (some ⟨hb, 1, none⟩) from by simp [upd, e0, e3])]; simp [go_sem, Act.eval]) (HAT.out (nq + 1)) ?_
    rintro e w1 ⟨rfl, q2, hw1⟩
    have HC1 : (fun wq => ∃ q : Nat, wq = X.drewN q) w1 := ⟨nq + 1 + q2, by rw [hw1, World.drewN_drewN]⟩
    refine ⟨_, rfl, fun F5 => ?_⟩
    refine lyp F5 rfl HC1 rfl (by omega) (wanted_none rfl) (v := Value.pointer (some ⟨hb, o2, none⟩)) (fun wr hwr => by simp only [execOp, (F5.eval 18 (by omega)).trans (show _ = Value.pointer (some ⟨hb, o2, none⟩) from by simp [upd, e0, e3])]; simp [go_sem]) fun F6 => ?_
    refine lyp F6 rfl HC1 rfl (by omega) (wanted_none rfl) (v := Value.pointer (some ⟨hb, o2, none⟩)) (fun wr hwr => by simp only [execOp, (F6.eval 19 (by omega)).trans (show _ = Value.pointer (some ⟨hb, o2, none⟩) from by simp [upd, e0, e3])]; simp [go_sem]) fun F7 => ?_
    refine lyp F7 rfl HC1 rfl (by omega) (wanted_none rfl) (v := Value.pointer (some ⟨hb, o2 + 1, none⟩)) (fun wr hwr => by simp only [execOp, (F7.eval 20 (by omega)).trans (show _ = Value.pointer (some ⟨hb, o2, none⟩) from by simp [upd, e0, e3])]; simp [go_sem]) fun F8 => ?_
    refine lyp F8 rfl HC1 rfl (by omega) (wanted_none rfl) (v := Value.int .i64 x.i) (fun wr hwr => by obtain ⟨q, rfl⟩ := hwr; simp only [execOp, (F8.eval 21 (by omega)).trans (show _ = Value.pointer (some ⟨hb, o2 + 1, none⟩) from by simp [upd, e0, e3])]; simp [go_sem, q1]) fun F9 => ?_
    refine lyp F9 rfl HC1 rfl (by omega) (wanted_none rfl) (v := Value.bool false) (fun wr hwr => by simp only [execOp, (F9.eval 16 (by omega)).trans (show _ = Value.int .i64 r.i from by simp [upd, e0, e3]), (F9.eval 22 (by omega)).trans (show _ = Value.int .i64 x.i from by simp [upd, e0, e3])]; simp [go_sem, Act.eval]; omega) fun F10 => ?_
    obtain ⟨nr, hnq⟩ := HC1
    subst hnq
    refine ⟨fun _ => ⟨nr, rfl⟩, ?_⟩
    refine hK2 _ _ ?_
    clear F0 F1 F2 F3 F4 F5 F6 F7 F8 F9 F10 e0 e3 HCC
    simp only [Act.put, List.setIfInBounds_toArray, List.set_cons_succ, List.set_cons_zero]
    clear hw1
    obtain ⟨Y, hY⟩ : ∃ Y, Y = X.drewN nr := ⟨_, rfl⟩
    rw [← hY]
    have hB1 : Blk Y hb C 67 := by rw [hY]; exact HBX.out
    have hX1 : Blk Y bx (rpA r) 36 := by rw [hY]; exact HXB.out
    have hG1 : Chg (fun k => k = hb) w Y := by rw [hY]; exact HCG.out.drewN nr
    have g65 : Y.cell? ⟨hb, 65, none⟩ = some (.int .i64 (m : Nat)) := (hB1.cell 65).trans HC'.out.c65
    have g66 : Y.cell? ⟨hb, 66, none⟩ = some (.int .i64 (f : Nat)) := (hB1.cell 66).trans HC'.out.c66
    have f66 : Y.frozen? ⟨hb, 66, none⟩ = false := hB1.frozen 66
    obtain ⟨f2, hf2⟩ : ∃ f2, f2 = (f + 1) % m := ⟨_, rfl⟩
    have hm1 : m ≠ 0 := by omega
    have hk2 : ((f : Int) + 1).tmod (m : Int) = (f2 : Int) := by
      rw [Int.tmod_eq_emod_of_nonneg (by omega), hf2]
      rfl
    clear hY c65 c67 q1 b1
    go_wp2_with fail
    try rw [show ∀ a : Act, a.put none undef = a from fun _ => rfl]
    refine wp_region_mix (fun wq => wq.cell? ⟨hb, 65, none⟩ = some (.int .i64 (m : Nat)) ∧ wq.cell? ⟨hb, 66, none⟩ = some (.int .i64 (f : Nat)) ∧ wq.frozen? ⟨hb, 66, none⟩ = false) (fun i => i == 13) 13 (by kernel_rfl) rfl (by kernel_rfl) (by kernel_rfl) (by kernel_rfl) ?_
    refine withFrP (N := 88) rfl ?_
    intro f0 F0 hff
    have e0 : f0 0 = Value.pointer (some ⟨hb, 1, none⟩) := hff 0
    clear hff
    have HCC : (fun wq => wq.cell? ⟨hb, 65, none⟩ = some (.int .i64 (m : Nat)) ∧ wq.cell? ⟨hb, 66, none⟩ = some (.int .i64 (f : Nat)) ∧ wq.frozen? ⟨hb, 66, none⟩ = false) (({ Y with drawn := Y.drawn + 1 } : World)) := ⟨g65, g66, f66⟩
    refine lyp F0 rfl HCC rfl (by omega) (wanted_none rfl) (v := Value.pointer (some ⟨hb, 1, none⟩)) (fun wr hwr => by simp only [execOp, (F0.eval 0 (by omega)).trans (show _ = Value.pointer (some ⟨hb, 1, none⟩) from by simp [upd, e0])]; first | rfl | simp [go_sem]) fun F1 => ?_
    refine lyp F1 rfl HCC rfl (by omega) (wanted_none rfl) (v := Value.pointer (some ⟨hb, 1, none⟩)) (fun wr hwr => by simp only [execOp, (F1.eval 0 (by omega)).trans (show _ = Value.pointer (some ⟨hb, 1, none⟩) from by simp [upd, e0])]; first | rfl | simp [go_sem]) fun F2 => ?_
    refine lyp F2 rfl HCC rfl (by omega) (wanted_none rfl) (v := Value.pointer (some ⟨hb, 1, none⟩)) (fun wr hwr => by simp only [execOp, (F2.eval 25 (by omega)).trans (show _ = Value.pointer (some ⟨hb, 1, none⟩) from by simp [upd, e0])]; simp [go_sem]) fun F3 => ?_
    refine lyp F3 rfl HCC rfl (by omega) (wanted_none rfl) (v := Value.pointer (some ⟨hb, 66, none⟩)) (fun wr hwr => by simp only [execOp, (F3.eval 26 (by omega)).trans (show _ = Value.pointer (some ⟨hb, 1, none⟩) from by simp [upd, e0])]; simp [go_sem]) fun F4 => ?_
    refine lyp F4 rfl HCC rfl (by omega) (wanted_none rfl) (v := Value.int .i64 (f : Nat)) (fun wr hwr => by simp only [execOp, (F4.eval 27 (by omega)).trans (show _ = Value.pointer (some ⟨hb, 66, none⟩) from by simp [upd, e0])]; simp [go_sem, hwr.2.1]) fun F5 => ?_
    refine lyp F5 rfl HCC rfl (by omega) (wanted_none rfl) (v := Value.int .i64 ((f : Int) + 1)) (fun wr hwr => by simp only [execOp, (F5.eval 28 (by omega)).trans (show _ = Value.int .i64 (f : Nat) from by simp [upd, e0])]; simp [go_sem, Act.eval]; rw [IntKind.wrap_i64]; omega) fun F6 => ?_
    refine lyp F6 rfl HCC rfl (by omega) (wanted_none rfl) (v := Value.pointer (some ⟨hb, 1, none⟩)) (fun wr hwr => by simp only [execOp, (F6.eval 0 (by omega)).trans (show _ = Value.pointer (some ⟨hb, 1, none⟩) from by simp [upd, e0])]; first | rfl | simp [go_sem]) fun F7 => ?_
    refine lyp F7 rfl HCC rfl (by omega) (wanted_none rfl) (v := Value.pointer (some ⟨hb, 1, none⟩)) (fun wr hwr => by simp only [execOp, (F7.eval 30 (by omega)).trans (show _ = Value.pointer (some ⟨hb, 1, none⟩) from by simp [upd, e0])]; simp [go_sem]) fun F8 => ?_
    refine lyp F8 rfl HCC rfl (by omega) (wanted_none rfl) (v := Value.pointer (some ⟨hb, 65, none⟩)) (fun wr hwr => by simp only [execOp, (F8.eval 31 (by omega)).trans (show _ = Value.pointer (some ⟨hb, 1, none⟩) from by simp [upd, e0])]; simp [go_sem]) fun F9 => ?_
    refine lyp F9 rfl HCC rfl (by omega) (wanted_none rfl) (v := Value.int .i64 (m : Nat)) (fun wr hwr => by simp only [execOp, (F9.eval 32 (by omega)).trans (show _ = Value.pointer (some ⟨hb, 65, none⟩) from by simp [upd, e0])]; simp [go_sem, hwr.1]) fun F10 => ?_
    refine lyp F10 rfl HCC rfl (by omega) (wanted_none rfl) (v := Value.int .i64 ((f2 : Nat) : Int)) (fun wr hwr => by simp only [execOp, (F10.eval 29 (by omega)).trans (show _ = Value.int .i64 ((f : Int) + 1) from by simp [upd, e0]), (F10.eval 33 (by omega)).trans (show _ = Value.int .i64 (m : Nat) from by simp [upd, e0])]; simp [go_sem, Act.eval, hm1, hk2]) fun F11 => ?_
    refine lyp F11 rfl HCC rfl (by omega) (wanted_none rfl) (v := Value.pointer (some ⟨hb, 1, none⟩)) (fun wr hwr => by simp only [execOp, (F11.eval 24 (by omega)).trans (show _ = Value.pointer (some ⟨hb, 1, none⟩) from by simp [upd, e0])]; simp [go_sem]) fun F12 => ?_
    refine lyp F12 rfl HCC rfl (by omega) (wanted_none rfl) (v := Value.pointer (some ⟨hb, 66, none⟩)) (fun wr hwr => by simp only [execOp, (F12.eval 35 (by omega)).trans (show _ = Value.pointer (some ⟨hb, 1, none⟩) from by simp [upd, e0])]; simp [go_sem]) fun F13 => ?_
    refine lst rfl HCC rfl (wanted_none rfl) (w1 := (({ Y with drawn := Y.drawn + 1 } : World)).setCell ⟨hb, 66, none⟩ (.int .i64 (f2 : Nat))) (by simp only [execOp, (F13.eval 36 (by omega)).trans (show _ = Value.pointer (some ⟨hb, 66, none⟩) from by simp [upd, e0]), (F13.eval 34 (by omega)).trans (show _ = Value.int .i64 ((f2 : Nat) : Int) from by simp [upd, e0])]; simp [go_sem, g66, f66]) ?_
    refine ⟨fun h => by omega, ?_⟩
    clear F0 F1 F2 F3 F4 F5 F6 F7 F8 F9 F10 F11 F12 F13 e0 HCC
    simp only [Act.put, List.setIfInBounds_toArray, List.set_cons_succ, List.set_cons_zero]
    obtain ⟨Z, hZ⟩ : ∃ Z, Z = ({ Y with drawn := Y.drawn + 1 } : World).setCell ⟨hb, 66, none⟩ (.int .i64 (f2 : Nat)) := ⟨_, rfl⟩
    have hB2 : Blk Z hb (C.setIfInBounds 66 (.int .i64 (f2 : Nat))) 67 := by rw [hZ]; exact Blk.set (w := { Y with drawn := Y.drawn + 1 }) hB1 66 _
    have hG2 : Chg (fun k => k = hb) w Z := by rw [hZ]; exact (hG1.drewN 1).trans ⟨rfl, rfl, rfl, by simp [World.setCell], fun k hk hn => Below.heap_setCell _ _ _ _ hn⟩ (fun _ _ e => e)
    have hX2 : Blk Z bx (rpA r) 36 := by
      rw [hZ]
      refine Chg.blk (A := fun k => k = hb) (w := { Y with drawn := Y.drawn + 1 }) ⟨rfl, rfl, rfl, by simp [World.setCell], fun k hk hn => Below.heap_setCell _ _ _ _ hn⟩ hX1 (fun e => ?_)
      subst e
      have := hB1.symm.trans hX1
      simp at this
    have hCf := HC'.out.set66 f2
    have z67 : Z.cell? ⟨hb, 67, none⟩ = some (.int .i64 (R.length : Nat)) := (hB2.cell 67).trans hCf.c67
    have zf : Z.frozen? ⟨hb, 67, none⟩ = false := hB2.frozen 67
    rw [← hZ]
    have hR1 : 1 ≤ R.length := by omega
    have hR2 : R.length ≤ 16 := by omega
    clear hZ g65 g66 f66 hB1 hX1 hG1
    obtain ⟨Y, hY⟩ : ∃ Y, Y = Z.setCell ⟨hb, 67, none⟩ (.int .i64 ((R.length : Int) - 1)) := ⟨_, rfl⟩
    have hlt1 : ((R.tail.length : Nat) : Int) = (R.length : Int) - 1 := by rw [List.length_tail]; omega
    have hBY : Blk Y hb ((C.setIfInBounds 66 (.int .i64 (f2 : Nat))).setIfInBounds 67 (.int .i64 (R.tail.length : Nat))) 67 := by rw [hY, hlt1]; exact hB2.set 67 _
    have hChg : Chg (fun k => k = hb) w Y := by rw [hY]; exact hG2.trans ⟨rfl, rfl, rfl, by simp [World.setCell], fun k hk hn => Below.heap_setCell _ _ _ _ hn⟩ (fun _ _ e => e)
    have hXY : Blk Y bx (rpA r) 36 := by
      rw [hY]
      refine Chg.blk (A := fun k => k = hb) (w := Z) ⟨rfl, rfl, rfl, by simp [World.setCell], fun k hk hn => Below.heap_setCell _ _ _ _ hn⟩ hX2 (fun e => ?_)
      subst e
      have := hB2.symm.trans hX2
      simp at this
    have hCY := hCf.set67 R.tail.length
    have hff2 : f2 < m := by rw [hf2]; exact Nat.mod_lt _ (by omega)
    have hRY : ∀ i x, R.tail[i]? = some x → sl ((f2 + i) % m) = x := fun i x hx => by
      have := HR.out (i + 1) x (by simpa using hx)
      rw [hf2, Nat.mod_add_mod, show f + 1 + i = f + (i + 1) by omega]
      exact this
    obtain ⟨Rr, hRr⟩ : ∃ Rr, Rr = R.tail := ⟨_, rfl⟩
    obtain ⟨ff, hff0⟩ : ∃ ff, ff = f2 := ⟨_, rfl⟩
    rw [← hRr] at hCY hRY hBY
    rw [← hff0] at hCY hRY hBY
    generalize hC2 : (C.setIfInBounds 66 (.int .i64 (ff : Nat))).setIfInBounds 67 (.int .i64 (Rr.length : Nat)) = C2 at hBY hCY
    have hff : ff < m := by omega
    have hRn : Rr.length < m := by rw [hRr, List.length_tail]; omega
    have HPUT : Hid (∀ R', Ins r Rr R' → RPut m r R R') := fun R' h => Or.inr (Or.inl ⟨hRl, ⟨x, HX0.out, HLE.out⟩, by rw [← hRr]; exact h⟩)
    have HLEN : Hid (((R.length : Int) - 1) = (Rr.length : Nat)) := show ((R.length : Int) - 1) = (Rr.length : Nat) from by rw [hRr, List.length_tail]; omega
    have HYY : Hid (Y = Z.setCell ⟨hb, 67, none⟩ (.int .i64 ((R.length : Int) - 1))) := hY
    have y67 : Y.cell? ⟨hb, 67, none⟩ = some (.int .i64 (Rr.length : Nat)) := (hBY.cell 67).trans hCY.c67
    rw [HYY.out] at y67
    clear hY hff0 hRr HBX HXB HCG HC' HR hB2 hG2 hX2 hCf hlt1 hff2 hf2 hk2 HHI HHX hC2 hne hRl
    go_wp2_with fail
    rw [← HYY.out]
    clear y67 HYY z67 zf
    have HPS : Hid (PSt hb m la ff r Rr bx w Y Rr.length) := ⟨⟨C2, sl, hBY, hCY, fun j x _ hx => hRY j x hx, fun j x hj hx => by have := (List.getElem?_eq_some_iff.1 hx).1; omega⟩, fun j x hj hx => by have := (List.getElem?_eq_some_iff.1 hx).1; omega, hXY, hChg, Nat.le_refl _⟩
    have HAT : Hid (∀ (i : Nat) (wr : World) (k : Nat), PSt hb m la ff r Rr bx w wr k → i ≤ 16 → Calls Try.prog 27 #[.pointer (some ⟨hb, 1, none⟩), .int .i64 (i : Nat)] wr fun e w' => e = .returned (.pointer (some ⟨hb, 1 + 4 * ((ff + i) % m), none⟩)) ∧ ∃ q, w' = wr.drewN q) := fun i wr k h hi => by
      obtain ⟨⟨C, sl, h1, h2, _⟩, _⟩ := h
      exact at_any i wr h1 h2 hff hm hi
    have y67 : Y.cell? ⟨hb, 67, none⟩ = some (.int .i64 (Rr.length : Nat)) := (hBY.cell 67).trans hCY.c67
    clear hBY hCY hRY hXY hChg
    go_loopw [4] (fun i wr => ∃ k : Nat, i = .int .i64 k ∧ PSt hb m la ff r Rr bx w wr k) (fun i _ => (intOf i).toNat)
    case atStart => exact ⟨Rr.length, rfl, HPS.out⟩
    case round =>
      obtain ⟨k, rfl, hP⟩ := hrel
      clear HPS y67
      have hkl := hP.kl
      have b0 : ∀ q, (wr.drewN q).cell? ⟨bx, 0, none⟩ = some (.int .i64 r.s) := fun q => hP.bx.cell 0
      have b1 : ∀ q, (wr.drewN q).cell? ⟨bx, 1, none⟩ = some (.int .i64 r.i) := fun q => hP.bx.cell 1
      have b2 : ∀ q, (wr.drewN q).cell? ⟨bx, 2, none⟩ = some (.int .i64 r.e) := fun q => hP.bx.cell 2
      have b3 : ∀ q, (wr.drewN q).cell? ⟨bx, 3, none⟩ = some (.int .i64 r.v) := fun q => hP.bx.cell 3
      have FIN : Hid (∀ q : Nat, PSt hb m la ff r Rr bx w (wr.drewN q) k) := fun q => hP.drew q
      have hcnt : wr.cell? ⟨hb, 67, none⟩ = some (.int .i64 (Rr.length : Nat)) := by
        obtain ⟨⟨C, sl, h1, h2, _⟩, _⟩ := hP
        exact (h1.cell 67).trans h2.c67
      have hsl4 : ∀ j, j < 4 → (wr.cell? ⟨hb, 1 + 4 * ((ff + k) % m) + j, none⟩).isSome ∧ wr.frozen? ⟨hb, 1 + 4 * ((ff + k) % m) + j, none⟩ = false := fun j hj => by
        obtain ⟨⟨C, sl, h1, h2, _⟩, _⟩ := hP
        have hlt : (ff + k) % m < m := Nat.mod_lt _ (by omega)
        refine ⟨?_, h1.frozen _⟩
        rw [h1.cell, Array.getElem?_eq_getElem (by rw [h2.size]; omega)]
        rfl
      have hfz : wr.frozen? ⟨hb, 67, none⟩ = false := by
        obtain ⟨⟨C, sl, h1, h2, _⟩, _⟩ := hP
        exact h1.frozen _
      obtain ⟨o, ho⟩ : ∃ o, o = 1 + 4 * ((ff + k) % m) := ⟨_, rfl⟩
      rw [← ho] at hsl4
      have ho68 : o + 3 < 67 := by have := Nat.mod_lt (ff + k) hmp; omega
      obtain ⟨⟨s0, y0'⟩, ⟨s1, y1'⟩, ⟨s2, y2'⟩, s3, y3'⟩ := (⟨hsl4 0 (by omega), hsl4 1 (by omega), hsl4 2 (by omega), hsl4 3 (by omega)⟩ : _ ∧ _ ∧ _ ∧ _)
      obtain ⟨v0, u0'⟩ := Option.isSome_iff_exists.1 s0
      obtain ⟨v1, u1'⟩ := Option.isSome_iff_exists.1 s1
      obtain ⟨v2, u2'⟩ := Option.isSome_iff_exists.1 s2
      obtain ⟨v3, u3'⟩ := Option.isSome_iff_exists.1 s3
      have u0 : ∀ q, (wr.drewN q).cell? ⟨hb, o, none⟩ = some v0 := fun q => u0'
      have u1 : ∀ q, (wr.drewN q).cell? ⟨hb, o + 1, none⟩ = some v1 := fun q => u1'
      have u2 : ∀ q, (wr.drewN q).cell? ⟨hb, o + 2, none⟩ = some v2 := fun q => u2'
      have u3 : ∀ q, (wr.drewN q).cell? ⟨hb, o + 3, none⟩ = some v3 := fun q => u3'
      have y0 : ∀ q, (wr.drewN q).frozen? ⟨hb, o, none⟩ = false := fun q => y0'
      have y1 : ∀ q, (wr.drewN q).frozen? ⟨hb, o + 1, none⟩ = false := fun q => y1'
      have y2 : ∀ q, (wr.drewN q).frozen? ⟨hb, o + 2, none⟩ = false := fun q => y2'
      have y3 : ∀ q, (wr.drewN q).frozen? ⟨hb, o + 3, none⟩ = false := fun q => y3'
      clear s0 s1 s2 s3 u0' u1' u2' u3' y0' y1' y2' y3'
      have HSL : Hid True := trivial
      have HOO : Hid _ := ho
      have HAK : Hid (∀ q, Calls Try.prog 27 #[.pointer (some ⟨hb, 1, none⟩), .int .i64 (k : Nat)] (wr.drewN q) fun e w' => e = .returned (.pointer (some ⟨hb, o, none⟩)) ∧ ∃ q', w' = (wr.drewN q).drewN q') := fun q => by
        have := HAT.out k (wr.drewN q) k (hP.drew q) (by omega)
        rw [← ho] at this
        exact this
      have HKB : Hid _ := hkl
      clear hsl4 ho
      by_cases hk0 : k = 0
      · subst hk0
        have HINS : Hid (Ins r Rr (Rr.take 0 ++ r :: Rr.drop 0)) := ⟨0, Nat.zero_le _, rfl, fun x hx => by
          obtain ⟨j, hj, rfl⟩ := List.getElem_of_mem hx
          have := hP.gt j _ (Nat.zero_le _) (List.getElem?_eq_getElem (by simpa using hj))
          simpa using this, Or.inl rfl⟩
        clear hP
        go_wp2_with fail
        rename_i K6 hK6
        try rw [show ∀ a : Act, a.put none undef = a from fun _ => rfl]
        refine wp_region_mix (fun wq => ∃ q : Nat, wq = wr.drewN q) (fun i => i == 99) 99 (by kernel_rfl) rfl (by kernel_rfl) (by kernel_rfl) (by kernel_rfl) ?_
        refine withFrP (N := 88) rfl ?_
        intro f0 F0 hff
        have e0 : f0 0 = Value.pointer (some ⟨hb, 1, none⟩) := hff 0
        have e3 : f0 3 = Value.pointer (some ⟨bx, 0, none⟩) := hff 3
        have e4 : f0 4 = Value.int .i64 ((0 : Nat) : Int) := hff 4
        clear hff
        have HCC : (fun wq => ∃ q : Nat, wq = wr.drewN q) (({ wr with drawn := wr.drawn + 1 } : World)) := ⟨1, rfl⟩
        refine lyp F0 rfl HCC rfl (by omega) (wanted_none rfl) (v := Value.int .i64 ((0 : Nat) : Int)) (fun wr hwr => by simp only [execOp, (F0.eval 4 (by omega)).trans (show _ = Value.int .i64 ((0 : Nat) : Int) from by simp [upd, e0, e3, e4])]; first | rfl | simp [go_sem]) fun F1 => ?_
        refine lyp F1 rfl HCC rfl (by omega) (wanted_none rfl) (v := Value.bool false) (fun wr hwr => by simp only [execOp, (F1.eval 48 (by omega)).trans (show _ = Value.int .i64 ((0 : Nat) : Int) from by simp [upd, e0, e3, e4])]; simp [go_sem, Act.eval]) fun F2 => ?_
        refine lyp F2 rfl HCC rfl (by omega) (wanted_none rfl) (v := Value.bool false) (fun wr hwr => by simp only [execOp, (F2.eval 49 (by omega)).trans (show _ = Value.bool false from by simp [upd, e0, e3, e4])]; first | rfl | simp [go_sem]) fun F3 => ?_
        refine lnp F3 rfl HCC rfl (by omega) (want_no F3 rfl (e := 50) rfl (by omega) (show _ = Value.bool false from by simp [upd, e0, e3, e4]) (by decide)) fun F4 => ?_
        refine lnp F4 rfl HCC rfl (by omega) (want_no F4 rfl (e := 50) rfl (by omega) (show _ = Value.bool false from by simp [upd, e0, e3, e4]) (by decide)) fun F5 => ?_
        refine lnp F5 rfl HCC rfl (by omega) (want_no F5 rfl (e := 50) rfl (by omega) (show _ = Value.bool false from by simp [upd, e0, e3, e4]) (by decide)) fun F6 => ?_
        refine lnp F6 rfl HCC rfl (by omega) (want_no F6 rfl (e := 50) rfl (by omega) (show _ = Value.bool false from by simp [upd, e0, e3, e4]) (by decide)) fun F7 => ?_
        refine lnp F7 rfl HCC rfl (by omega) (want_no F7 rfl (e := 50) rfl (by omega) (show _ = Value.bool false from by simp [upd, e0, e3, e4]) (by decide)) fun F8 => ?_
        refine lnp F8 rfl HCC rfl (by omega) (want_no F8 rfl (e := 50) rfl (by omega) (show _ = Value.bool false from by simp [upd, e0, e3, e4]) (by decide)) fun F9 => ?_
        refine lnp F9 rfl HCC rfl (by omega) (want_no F9 rfl (e := 50) rfl (by omega) (show _ = Value.bool false from by simp [upd, e0, e3, e4]) (by decide)) fun F10 => ?_
        refine lnp F10 rfl HCC rfl (by omega) (want_no F10 rfl (e := 50) rfl (by omega) (show _ = Value.bool false from by simp [upd, e0, e3, e4]) (by decide)) fun F11 => ?_
        refine lnp F11 rfl HCC rfl (by omega) (want_no F11 rfl (e := 50) rfl (by omega) (show _ = Value.bool false from by simp [upd, e0, e3, e4]) (by decide)) fun F12 => ?_
        refine lnp F12 rfl HCC rfl (by omega) (want_no F12 rfl (e := 50) rfl (by omega) (show _ = Value.bool false from by simp [upd, e0, e3, e4]) (by decide)) fun F13 => ?_
        refine lnp F13 rfl HCC rfl (by omega) (want_no F13 rfl (e := 50) rfl (by omega) (show _ = Value.bool false from by simp [upd, e0, e3, e4]) (by decide)) fun F14 => ?_
        refine lnp F14 rfl HCC rfl (by omega) (want_no F14 rfl (e := 50) rfl (by omega) (show _ = Value.bool false from by simp [upd, e0, e3, e4]) (by decide)) fun F15 => ?_
        refine lyp F15 rfl HCC rfl (by omega) (wanted_none rfl) (v := Value.bool false) (fun wr hwr => by simp only [execOp, (F15.eval 50 (by omega)).trans (show _ = Value.bool false from by simp [upd, e0, e3, e4])]; simp [go_sem, Act.eval]) fun F16 => ?_
        obtain ⟨nq, hnq⟩ : ∃ nq, nq = 1 := ⟨_, rfl⟩
        replace HCC : ({ wr with drawn := wr.drawn + 1 } : World) = wr.drewN nq := by rw [hnq]; rfl
        refine ⟨fun _ => ⟨nq, HCC⟩, ?_⟩
        refine hK6 _ _ ?_
        clear F0 F1 F2 F3 F4 F5 F6 F7 F8 F9 F10 F11 F12 F13 F14 F15 F16 e0 e3 e4 
        simp only [Act.put, List.setIfInBounds_toArray, List.set_cons_succ, List.set_cons_zero]
        rw [HCC]
        clear HCC hnq
        go_wp2_with fail
        try rw [show ∀ a : Act, a.put none undef = a from fun _ => rfl]
        refine wp_region_mix (fun wq => ∃ q : Nat, wq = wr.drewN q) (fun i => i == 2 || i == 5) 5 (by kernel_rfl) rfl (by kernel_rfl) (by kernel_rfl) (by kernel_rfl) ?_
        refine withFrP (N := 88) rfl ?_
        intro f0 F0 hff
        have e0 : f0 0 = Value.pointer (some ⟨hb, 1, none⟩) := hff 0
        have e3 : f0 3 = Value.pointer (some ⟨bx, 0, none⟩) := hff 3
        have e4 : f0 4 = Value.int .i64 (0 : Nat) := hff 4
        clear hff
        have HCC : (fun wq => ∃ q : Nat, wq = wr.drewN q) (({ (wr.drewN nq) with drawn := (wr.drewN nq).drawn + 1 } : World)) := ⟨nq + 1, rfl⟩
        refine lyp F0 rfl HCC rfl (by omega) (wanted_none rfl) (v := Value.pointer (some ⟨hb, 1, none⟩)) (fun wr hwr => by simp only [execOp, (F0.eval 0 (by omega)).trans (show _ = Value.pointer (some ⟨hb, 1, none⟩) from by simp [upd, e0, e3, e4])]; first | rfl | simp [go_sem]) fun F1 => ?_
        refine lyp F1 rfl HCC rfl (by omega) (wanted_none rfl) (v := Value.int .i64 (0 : Nat)) (fun wr hwr => by simp only [execOp, (F1.eval 4 (by omega)).trans (show _ = Value.int .i64 (0 : Nat) from by simp [upd, e0, e3, e4])]; first | rfl | simp [go_sem]) fun F2 => ?_
        refine lcp F2 rfl HCC rfl (by omega) (wanted_none rfl) (g := 27) (args := #[Value.pointer (some ⟨hb, 1, none⟩), Value.int .i64 (0 : Nat)]) (by simp only [execOp, resolve, invoke, List.map_toArray, List.map_cons, List.map_nil, (F2.eval 76 (by omega)).trans (show _ = Value.pointer (some ⟨hb, 1, none⟩) from by simp [upd, e0, e3, e4]), (F2.eval 77 (by omega)).trans (show _ = Value.int .i64 (0 : Nat) from by simp [upd, e0, e3, e4])]; simp [go_sem, Act.eval]) (HAK.out (nq + 1)) ?_
        rintro e w1 ⟨rfl, q2, hw1⟩
        have HC1 : (fun wq => ∃ q : Nat, wq = wr.drewN q) w1 := ⟨nq + 1 + q2, by rw [hw1, World.drewN_drewN]⟩
        refine ⟨_, rfl, fun F3 => ?_⟩
        refine lyp F3 rfl HC1 rfl (by omega) (wanted_none rfl) (v := Value.agg #[.int .i64 r.s, .int .i64 r.i, .int .i64 r.e, .int .i64 r.v]) (fun wr hwr => by obtain ⟨q, rfl⟩ := hwr; simp only [execOp, (F3.eval 3 (by omega)).trans (show _ = Value.pointer (some ⟨bx, 0, none⟩) from by simp [upd, e0, e3, e4])]; simp [go_sem, b0, b1, b2, b3]) fun F4 => ?_
        refine lyp F4 rfl HC1 rfl (by omega) (wanted_none rfl) (v := Value.pointer (some ⟨hb, o, none⟩)) (fun wr hwr => by simp only [execOp, (F4.eval 78 (by omega)).trans (show _ = Value.pointer (some ⟨hb, o, none⟩) from by simp [upd, e0, e3, e4])]; simp [go_sem]) fun F5 => ?_
        obtain ⟨q3, hq3⟩ := HC1
        subst hq3
        clear hw1
        refine lst rfl ⟨q3, rfl⟩ rfl (wanted_none rfl) (w1 := ((((wr.drewN q3).setCell ⟨hb, o, none⟩ (.int .i64 r.s)).setCell ⟨hb, o + 1, none⟩ (.int .i64 r.i)).setCell ⟨hb, o + 2, none⟩ (.int .i64 r.e)).setCell ⟨hb, o + 3, none⟩ (.int .i64 r.v)) (by simp only [execOp, (F5.eval 80 (by omega)).trans (show _ = Value.pointer (some ⟨hb, o, none⟩) from by simp [upd, e0, e3, e4]), (F5.eval 79 (by omega)).trans (show _ = Value.agg #[.int .i64 r.s, .int .i64 r.i, .int .i64 r.e, .int .i64 r.v] from by simp [upd, e0, e3, e4])]; simp [go_sem, u0, u1, u2, u3, y0, y1, y2, y3]) ?_
        refine ⟨fun h => by omega, ?_⟩
        clear F0 F1 F2 F3 F4 F5 e0 e3 e4 HCC
        simp only [Act.put, List.setIfInBounds_toArray, List.set_cons_succ, List.set_cons_zero]
        obtain ⟨Z, hZ⟩ : ∃ Z, Z = ((((wr.drewN q3).setCell ⟨hb, o, none⟩ (.int .i64 r.s)).setCell ⟨hb, o + 1, none⟩ (.int .i64 r.i)).setCell ⟨hb, o + 2, none⟩ (.int .i64 r.e)).setCell ⟨hb, o + 3, none⟩ (.int .i64 r.v) := ⟨_, rfl⟩
        have z67 : Z.cell? ⟨hb, 67, none⟩ = some (.int .i64 (Rr.length : Nat)) := by
          rw [hZ]
          obtain ⟨⟨C, sl, h1, h2, _⟩, _⟩ := FIN.out q3
          rw [(set4_blk h1 o _ _ _ _).1.cell, set4_get _ _ _ _ _ _ _ (by rw [h2.size]; omega), if_neg (by omega), if_neg (by omega), if_neg (by omega), if_neg (by omega)]
          exact h2.c67
        have zf : Z.frozen? ⟨hb, 67, none⟩ = false := by
          rw [hZ]
          obtain ⟨⟨C, sl, h1, h2, _⟩, _⟩ := FIN.out q3
          exact (set4_blk h1 o _ _ _ _).1.frozen 67
        have HFN : Hid _ := (FIN.out q3).fin hff hm hRn HOO.out (Z.setCell ⟨hb, 67, none⟩ (.int .i64 ((Rr.length : Int) + 1))) (by rw [hZ])
        rw [← hZ]
        clear hZ u0 u1 u2 u3 y0 y1 y2 y3 b0 b1 b2 b3 FIN HAK HAT HSL
        go_wp2_with fail
        go_end0
        exact ⟨⟨_, rfl⟩, _, HPUT.out _ HINS.out, HFN.out.1, HFN.out.2⟩
      · obtain ⟨k, rfl⟩ : ∃ k', k = k' + 1 := ⟨k - 1, by omega⟩
        obtain ⟨x, hx⟩ : ∃ x, Rr[k]? = some x := ⟨Rr[k]'(by omega), List.getElem?_eq_getElem _⟩
        obtain ⟨o2, ho2⟩ : ∃ o2, o2 = 1 + 4 * ((ff + k) % m) := ⟨_, rfl⟩
        have ek : ((k + 1 : Nat) : Int) - 1 = (k : Nat) := by omega
        have HA1 : Hid (∀ q, Calls Try.prog 27 #[.pointer (some ⟨hb, 1, none⟩), .int .i64 (k : Nat)] (wr.drewN q) fun e w' => e = .returned (.pointer (some ⟨hb, o2, none⟩)) ∧ ∃ q', w' = (wr.drewN q).drewN q') := fun q => by
          have := HAT.out k (wr.drewN q) (k + 1) (hP.drew q) (by omega)
          rw [← ho2] at this
          exact this
        have hx4 : wr.cell? ⟨hb, o2, none⟩ = some (.int .i64 x.s) ∧ wr.cell? ⟨hb, o2 + 1, none⟩ = some (.int .i64 x.i) ∧ wr.cell? ⟨hb, o2 + 2, none⟩ = some (.int .i64 x.e) ∧ wr.cell? ⟨hb, o2 + 3, none⟩ = some (.int .i64 x.v) := by
          obtain ⟨⟨C, sl, h1, h2, h3, _⟩, _⟩ := hP
          rw [ho2]
          exact slot_cells h1 h2 _ (by have := Nat.mod_lt (ff + k) hmp; omega) (h3 k x (by omega) hx)
        have x0 : ∀ q, (wr.drewN q).cell? ⟨hb, o2, none⟩ = some (.int .i64 x.s) := fun q => hx4.1
        have x1 : ∀ q, (wr.drewN q).cell? ⟨hb, o2 + 1, none⟩ = some (.int .i64 x.i) := fun q => hx4.2.1
        have x2 : ∀ q, (wr.drewN q).cell? ⟨hb, o2 + 2, none⟩ = some (.int .i64 x.e) := fun q => hx4.2.2.1
        have x3 : ∀ q, (wr.drewN q).cell? ⟨hb, o2 + 3, none⟩ = some (.int .i64 x.v) := fun q => hx4.2.2.2
        clear hx4
        by_cases hgt : r.i < x.i
        · have HSH : Hid (∀ q : Nat, PSt hb m la ff r Rr bx w (((((wr.drewN q).setCell ⟨hb, o, none⟩ (.int .i64 x.s)).setCell ⟨hb, o + 1, none⟩ (.int .i64 x.i)).setCell ⟨hb, o + 2, none⟩ (.int .i64 x.e)).setCell ⟨hb, o + 3, none⟩ (.int .i64 x.v)) k) := fun q => (hP.drew q).shift hff hm hRn hx hgt HOO.out
          clear hP hx ho2 ek
          go_wp2_with fail
          rename_i K6 hK6
          try rw [show ∀ a : Act, a.put none undef = a from fun _ => rfl]
          refine wp_region_mix (fun wq => ∃ q : Nat, wq = wr.drewN q) (fun i => i == 6 || i == 99) 99 (by kernel_rfl) rfl (by kernel_rfl) (by kernel_rfl) (by kernel_rfl) ?_
          refine withFrP (N := 88) rfl ?_
          intro f0 F0 hff
          have e0 : f0 0 = Value.pointer (some ⟨hb, 1, none⟩) := hff 0
          have e3 : f0 3 = Value.pointer (some ⟨bx, 0, none⟩) := hff 3
          have e4 : f0 4 = Value.int .i64 ((k + 1 : Nat) : Int) := hff 4
          clear hff
          have HCC : (fun wq => ∃ q : Nat, wq = wr.drewN q) (({ wr with drawn := wr.drawn + 1 } : World)) := ⟨1, rfl⟩
          refine lyp F0 rfl HCC rfl (by omega) (wanted_none rfl) (v := Value.int .i64 ((k + 1 : Nat) : Int)) (fun wr hwr => by simp only [execOp, (F0.eval 4 (by omega)).trans (show _ = Value.int .i64 ((k + 1 : Nat) : Int) from by simp [upd, e0, e3, e4])]; first | rfl | simp [go_sem]) fun F1 => ?_
          refine lyp F1 rfl HCC rfl (by omega) (wanted_none rfl) (v := Value.bool true) (fun wr hwr => by simp only [execOp, (F1.eval 48 (by omega)).trans (show _ = Value.int .i64 ((k + 1 : Nat) : Int) from by simp [upd, e0, e3, e4])]; simp [go_sem, Act.eval]; try omega) fun F2 => ?_
          refine lyp F2 rfl HCC rfl (by omega) (wanted_none rfl) (v := Value.bool true) (fun wr hwr => by simp only [execOp, (F2.eval 49 (by omega)).trans (show _ = Value.bool true from by simp [upd, e0, e3, e4])]; first | rfl | simp [go_sem]) fun F3 => ?_
          refine lyp F3 rfl HCC rfl (by omega) (want_yes F3 rfl (e := 50) rfl (by omega) (show _ = Value.bool true from by simp [upd, e0, e3, e4])) (v := Value.pointer (some ⟨hb, 1, none⟩)) (fun wr hwr => by simp only [execOp, (F3.eval 0 (by omega)).trans (show _ = Value.pointer (some ⟨hb, 1, none⟩) from by simp [upd, e0, e3, e4])]; first | rfl | simp [go_sem]) fun F4 => ?_
          refine lyp F4 rfl HCC rfl (by omega) (want_yes F4 rfl (e := 50) rfl (by omega) (show _ = Value.bool true from by simp [upd, e0, e3, e4])) (v := Value.int .i64 ((k + 1 : Nat) : Int)) (fun wr hwr => by simp only [execOp, (F4.eval 4 (by omega)).trans (show _ = Value.int .i64 ((k + 1 : Nat) : Int) from by simp [upd, e0, e3, e4])]; first | rfl | simp [go_sem]) fun F5 => ?_
          refine lyp F5 rfl HCC rfl (by omega) (want_yes F5 rfl (e := 50) rfl (by omega) (show _ = Value.bool true from by simp [upd, e0, e3, e4])) (v := Value.int .i64 ((k : Nat) : Int)) (fun wr hwr => by simp only [execOp, (F5.eval 52 (by omega)).trans (show _ = Value.int .i64 ((k + 1 : Nat) : Int) from by simp [upd, e0, e3, e4])]; simp [go_sem, Act.eval]; try (rw [IntKind.wrap_i64]; omega)) fun F6 => ?_
          refine lcp F6 rfl HCC rfl (by omega) (want_yes F6 rfl (e := 50) rfl (by omega) (show _ = Value.bool true from by simp [upd, e0, e3, e4])) (g := 27) (args := #[Value.pointer (some ⟨hb, 1, none⟩), Value.int .i64 ((k : Nat) : Int)]) (by simp only [execOp, resolve, invoke, List.map_toArray, List.map_cons, List.map_nil, (F6.eval 51 (by omega)).trans (show _ = Value.pointer (some ⟨hb, 1, none⟩) from by simp [upd, e0, e3, e4]), (F6.eval 53 (by omega)).trans (show _ = Value.int .i64 ((k : Nat) : Int) from by simp [upd, e0, e3, e4])]; simp [go_sem, Act.eval]) (HA1.out 1) ?_
          rintro e w1 ⟨rfl, q2, hw1⟩
          have HC1 : (fun wq => ∃ q : Nat, wq = wr.drewN q) w1 := ⟨1 + q2, by rw [hw1, World.drewN_drewN]⟩
          refine ⟨_, rfl, fun F7 => ?_⟩
          refine lyp F7 rfl HC1 rfl (by omega) (want_yes F7 rfl (e := 50) rfl (by omega) (show _ = Value.bool true from by simp [upd, e0, e3, e4])) (v := Value.pointer (some ⟨hb, o2, none⟩)) (fun wr hwr => by simp only [execOp, (F7.eval 54 (by omega)).trans (show _ = Value.pointer (some ⟨hb, o2, none⟩) from by simp [upd, e0, e3, e4])]; simp [go_sem]) fun F8 => ?_
          refine lyp F8 rfl HC1 rfl (by omega) (want_yes F8 rfl (e := 50) rfl (by omega) (show _ = Value.bool true from by simp [upd, e0, e3, e4])) (v := Value.pointer (some ⟨hb, o2, none⟩)) (fun wr hwr => by simp only [execOp, (F8.eval 55 (by omega)).trans (show _ = Value.pointer (some ⟨hb, o2, none⟩) from by simp [upd, e0, e3, e4])]; simp [go_sem]) fun F9 => ?_
          refine lyp F9 rfl HC1 rfl (by omega) (want_yes F9 rfl (e := 50) rfl (by omega) (show _ = Value.bool true from by simp [upd, e0, e3, e4])) (v := Value.pointer (some ⟨hb, o2 + 1, none⟩)) (fun wr hwr => by simp only [execOp, (F9.eval 56 (by omega)).trans (show _ = Value.pointer (some ⟨hb, o2, none⟩) from by simp [upd, e0, e3, e4])]; simp [go_sem]) fun F10 => ?_
          refine lyp F10 rfl HC1 rfl (by omega) (want_yes F10 rfl (e := 50) rfl (by omega) (show _ = Value.bool true from by simp [upd, e0, e3, e4])) (v := Value.int .i64 x.i) (fun wr hwr => by obtain ⟨q, rfl⟩ := hwr; simp only [execOp, (F10.eval 57 (by omega)).trans (show _ = Value.pointer (some ⟨hb, o2 + 1, none⟩) from by simp [upd, e0, e3, e4])]; simp [go_sem, x1]) fun F11 => ?_
          refine lyp F11 rfl HC1 rfl (by omega) (want_yes F11 rfl (e := 50) rfl (by omega) (show _ = Value.bool true from by simp [upd, e0, e3, e4])) (v := Value.pointer (some ⟨bx, 0, none⟩)) (fun wr hwr => by simp only [execOp, (F11.eval 3 (by omega)).trans (show _ = Value.pointer (some ⟨bx, 0, none⟩) from by simp [upd, e0, e3, e4])]; simp [go_sem]) fun F12 => ?_
          refine lyp F12 rfl HC1 rfl (by omega) (want_yes F12 rfl (e := 50) rfl (by omega) (show _ = Value.bool true from by simp [upd, e0, e3, e4])) (v := Value.pointer (some ⟨bx, 1, none⟩)) (fun wr hwr => by simp only [execOp, (F12.eval 59 (by omega)).trans (show _ = Value.pointer (some ⟨bx, 0, none⟩) from by simp [upd, e0, e3, e4])]; simp [go_sem]) fun F13 => ?_
          refine lyp F13 rfl HC1 rfl (by omega) (want_yes F13 rfl (e := 50) rfl (by omega) (show _ = Value.bool true from by simp [upd, e0, e3, e4])) (v := Value.int .i64 r.i) (fun wr hwr => by obtain ⟨q, rfl⟩ := hwr; simp only [execOp, (F13.eval 60 (by omega)).trans (show _ = Value.pointer (some ⟨bx, 1, none⟩) from by simp [upd, e0, e3, e4])]; simp [go_sem, b1]) fun F14 => ?_
          refine lyp F14 rfl HC1 rfl (by omega) (want_yes F14 rfl (e := 50) rfl (by omega) (show _ = Value.bool true from by simp [upd, e0, e3, e4])) (v := Value.bool true) (fun wr hwr => by simp only [execOp, (F14.eval 58 (by omega)).trans (show _ = Value.int .i64 x.i from by simp [upd, e0, e3, e4]), (F14.eval 61 (by omega)).trans (show _ = Value.int .i64 r.i from by simp [upd, e0, e3, e4])]; simp [go_sem, Act.eval]; omega) fun F15 => ?_
          refine lyp F15 rfl HC1 rfl (by omega) (wanted_none rfl) (v := Value.bool true) (fun wr hwr => by simp only [execOp, (F15.eval 50 (by omega)).trans (show _ = Value.bool true from by simp [upd, e0, e3, e4]), (F15.eval 62 (by omega)).trans (show _ = Value.bool true from by simp [upd, e0, e3, e4])]; simp [go_sem, Act.eval]) fun F16 => ?_
          obtain ⟨nq, hnq⟩ := HC1
          subst hnq
          refine ⟨fun _ => ⟨nq, rfl⟩, ?_⟩
          refine hK6 _ _ ?_
          clear F0 F1 F2 F3 F4 F5 F6 F7 F8 F9 F10 F11 F12 F13 F14 F15 F16 e0 e3 e4 HCC
          simp only [Act.put, List.setIfInBounds_toArray, List.set_cons_succ, List.set_cons_zero]
          clear hw1
          go_wp2_with fail
          rw [show ((k : Int) + 1) = ((k + 1 : Nat) : Int) from rfl]
          refine Calls.mono (HAK.out nq) ?_
          rintro e w1 ⟨rfl, q2, rfl⟩
          rw [World.drewN_drewN]
          go_wp2_with fail
          refine Calls.mono (HA1.out _) ?_
          rintro e w1 ⟨rfl, q3, rfl⟩
          rw [World.drewN_drewN]
          clear HAK HA1
          go_wp2_with fail
          go_roundw
          case rel => exact ⟨k, by go_num, HSH.out _⟩
          case measure => simp [intOf]
        · have HINS : Hid (Ins r Rr (Rr.take (k + 1) ++ r :: Rr.drop (k + 1))) := ⟨k + 1, HKB.out, rfl, fun x hx => by
            obtain ⟨j, hj, rfl⟩ := List.getElem_of_mem hx
            have := hP.gt (k + 1 + j) _ (by omega) (List.getElem?_eq_getElem (by simp at hj; omega))
            simpa using this, Or.inr ⟨x, by simpa using hx, by omega⟩⟩
          clear hP hx ho2 ek
          go_wp2_with fail
          rename_i K6 hK6
          try rw [show ∀ a : Act, a.put none undef = a from fun _ => rfl]
          refine wp_region_mix (fun wq => ∃ q : Nat, wq = wr.drewN q) (fun i => i == 6 || i == 99) 99 (by kernel_rfl) rfl (by kernel_rfl) (by kernel_rfl) (by kernel_rfl) ?_
          refine withFrP (N := 88) rfl ?_
          intro f0 F0 hff
          have e0 : f0 0 = Value.pointer (some ⟨hb, 1, none⟩) := hff 0
          have e3 : f0 3 = Value.pointer (some ⟨bx, 0, none⟩) := hff 3
          have e4 : f0 4 = Value.int .i64 ((k + 1 : Nat) : Int) := hff 4
          clear hff
          have HCC : (fun wq => ∃ q : Nat, wq = wr.drewN q) (({ wr with drawn := wr.drawn + 1 } : World)) := ⟨1, rfl⟩
          refine lyp F0 rfl HCC rfl (by omega) (wanted_none rfl) (v := Value.int .i64 ((k + 1 : Nat) : Int)) (fun wr hwr => by simp only [execOp, (F0.eval 4 (by omega)).trans (show _ = Value.int .i64 ((k + 1 : Nat) : Int) from by simp [upd, e0, e3, e4])]; first | rfl | simp [go_sem]) fun F1 => ?_
          refine lyp F1 rfl HCC rfl (by omega) (wanted_none rfl) (v := Value.bool true) (fun wr hwr => by simp only [execOp, (F1.eval 48 (by omega)).trans (show _ = Value.int .i64 ((k + 1 : Nat) : Int) from by simp [upd, e0, e3, e4])]; simp [go_sem, Act.eval]; try omega) fun F2 => ?_
          refine lyp F2 rfl HCC rfl (by omega) (wanted_none rfl) (v := Value.bool true) (fun wr hwr => by simp only [execOp, (F2.eval 49 (by omega)).trans (show _ = Value.bool true from by simp [upd, e0, e3, e4])]; first | rfl | simp [go_sem]) fun F3 => ?_
          refine lyp F3 rfl HCC rfl (by omega) (want_yes F3 rfl (e := 50) rfl (by omega) (show _ = Value.bool true from by simp [upd, e0, e3, e4])) (v := Value.pointer (some ⟨hb, 1, none⟩)) (fun wr hwr => by simp only [execOp, (F3.eval 0 (by omega)).trans (show _ = Value.pointer (some ⟨hb, 1, none⟩) from by simp [upd, e0, e3, e4])]; first | rfl | simp [go_sem]) fun F4 => ?_
          refine lyp F4 rfl HCC rfl (by omega) (want_yes F4 rfl (e := 50) rfl (by omega) (show _ = Value.bool true from by simp [upd, e0, e3, e4])) (v := Value.int .i64 ((k + 1 : Nat) : Int)) (fun wr hwr => by simp only [execOp, (F4.eval 4 (by omega)).trans (show _ = Value.int .i64 ((k + 1 : Nat) : Int) from by simp [upd, e0, e3, e4])]; first | rfl | simp [go_sem]) fun F5 => ?_
          refine lyp F5 rfl HCC rfl (by omega) (want_yes F5 rfl (e := 50) rfl (by omega) (show _ = Value.bool true from by simp [upd, e0, e3, e4])) (v := Value.int .i64 ((k : Nat) : Int)) (fun wr hwr => by simp only [execOp, (F5.eval 52 (by omega)).trans (show _ = Value.int .i64 ((k + 1 : Nat) : Int) from by simp [upd, e0, e3, e4])]; simp [go_sem, Act.eval]; try (rw [IntKind.wrap_i64]; omega)) fun F6 => ?_
          refine lcp F6 rfl HCC rfl (by omega) (want_yes F6 rfl (e := 50) rfl (by omega) (show _ = Value.bool true from by simp [upd, e0, e3, e4])) (g := 27) (args := #[Value.pointer (some ⟨hb, 1, none⟩), Value.int .i64 ((k : Nat) : Int)]) (by simp only [execOp, resolve, invoke, List.map_toArray, List.map_cons, List.map_nil, (F6.eval 51 (by omega)).trans (show _ = Value.pointer (some ⟨hb, 1, none⟩) from by simp [upd, e0, e3, e4]), (F6.eval 53 (by omega)).trans (show _ = Value.int .i64 ((k : Nat) : Int) from by simp [upd, e0, e3, e4])]; simp [go_sem, Act.eval]) (HA1.out 1) ?_
          rintro e w1 ⟨rfl, q2, hw1⟩
          have HC1 : (fun wq => ∃ q : Nat, wq = wr.drewN q) w1 := ⟨1 + q2, by rw [hw1, World.drewN_drewN]⟩
          refine ⟨_, rfl, fun F7 => ?_⟩
          refine lyp F7 rfl HC1 rfl (by omega) (want_yes F7 rfl (e := 50) rfl (by omega) (show _ = Value.bool true from by simp [upd, e0, e3, e4])) (v := Value.pointer (some ⟨hb, o2, none⟩)) (fun wr hwr => by simp only [execOp, (F7.eval 54 (by omega)).trans (show _ = Value.pointer (some ⟨hb, o2, none⟩) from by simp [upd, e0, e3, e4])]; simp [go_sem]) fun F8 => ?_
          refine lyp F8 rfl HC1 rfl (by omega) (want_yes F8 rfl (e := 50) rfl (by omega) (show _ = Value.bool true from by simp [upd, e0, e3, e4])) (v := Value.pointer (some ⟨hb, o2, none⟩)) (fun wr hwr => by simp only [execOp, (F8.eval 55 (by omega)).trans (show _ = Value.pointer (some ⟨hb, o2, none⟩) from by simp [upd, e0, e3, e4])]; simp [go_sem]) fun F9 => ?_
          refine lyp F9 rfl HC1 rfl (by omega) (want_yes F9 rfl (e := 50) rfl (by omega) (show _ = Value.bool true from by simp [upd, e0, e3, e4])) (v := Value.pointer (some ⟨hb, o2 + 1, none⟩)) (fun wr hwr => by simp only [execOp, (F9.eval 56 (by omega)).trans (show _ = Value.pointer (some ⟨hb, o2, none⟩) from by simp [upd, e0, e3, e4])]; simp [go_sem]) fun F10 => ?_
          refine lyp F10 rfl HC1 rfl (by omega) (want_yes F10 rfl (e := 50) rfl (by omega) (show _ = Value.bool true from by simp [upd, e0, e3, e4])) (v := Value.int .i64 x.i) (fun wr hwr => by obtain ⟨q, rfl⟩ := hwr; simp only [execOp, (F10.eval 57 (by omega)).trans (show _ = Value.pointer (some ⟨hb, o2 + 1, none⟩) from by simp [upd, e0, e3, e4])]; simp [go_sem, x1]) fun F11 => ?_
          refine lyp F11 rfl HC1 rfl (by omega) (want_yes F11 rfl (e := 50) rfl (by omega) (show _ = Value.bool true from by simp [upd, e0, e3, e4])) (v := Value.pointer (some ⟨bx, 0, none⟩)) (fun wr hwr => by simp only [execOp, (F11.eval 3 (by omega)).trans (show _ = Value.pointer (some ⟨bx, 0, none⟩) from by simp [upd, e0, e3, e4])]; simp [go_sem]) fun F12 => ?_
          refine lyp F12 rfl HC1 rfl (by omega) (want_yes F12 rfl (e := 50) rfl (by omega) (show _ = Value.bool true from by simp [upd, e0, e3, e4])) (v := Value.pointer (some ⟨bx, 1, none⟩)) (fun wr hwr => by simp only [execOp, (F12.eval 59 (by omega)).trans (show _ = Value.pointer (some ⟨bx, 0, none⟩) from by simp [upd, e0, e3, e4])]; simp [go_sem]) fun F13 => ?_
          refine lyp F13 rfl HC1 rfl (by omega) (want_yes F13 rfl (e := 50) rfl (by omega) (show _ = Value.bool true from by simp [upd, e0, e3, e4])) (v := Value.int .i64 r.i) (fun wr hwr => by obtain ⟨q, rfl⟩ := hwr; simp only [execOp, (F13.eval 60 (by omega)).trans (show _ = Value.pointer (some ⟨bx, 1, none⟩) from by simp [upd, e0, e3, e4])]; simp [go_sem, b1]) fun F14 => ?_
          refine lyp F14 rfl HC1 rfl (by omega) (want_yes F14 rfl (e := 50) rfl (by omega) (show _ = Value.bool true from by simp [upd, e0, e3, e4])) (v := Value.bool false) (fun wr hwr => by simp only [execOp, (F14.eval 58 (by omega)).trans (show _ = Value.int .i64 x.i from by simp [upd, e0, e3, e4]), (F14.eval 61 (by omega)).trans (show _ = Value.int .i64 r.i from by simp [upd, e0, e3, e4])]; simp [go_sem, Act.eval]; omega) fun F15 => ?_
          refine lyp F15 rfl HC1 rfl (by omega) (wanted_none rfl) (v := Value.bool false) (fun wr hwr => by simp only [execOp, (F15.eval 50 (by omega)).trans (show _ = Value.bool true from by simp [upd, e0, e3, e4]), (F15.eval 62 (by omega)).trans (show _ = Value.bool false from by simp [upd, e0, e3, e4])]; simp [go_sem, Act.eval]) fun F16 => ?_
          obtain ⟨nq, hnq⟩ := HC1
          subst hnq
          refine ⟨fun _ => ⟨nq, rfl⟩, ?_⟩
          refine hK6 _ _ ?_
          clear F0 F1 F2 F3 F4 F5 F6 F7 F8 F9 F10 F11 F12 F13 F14 F15 F16 e0 e3 e4 HCC
          simp only [Act.put, List.setIfInBounds_toArray, List.set_cons_succ, List.set_cons_zero]
          clear hw1
          go_wp2_with fail
          try rw [show ∀ a : Act, a.put none undef = a from fun _ => rfl]
          refine wp_region_mix (fun wq => ∃ q : Nat, wq = wr.drewN q) (fun i => i == 2 || i == 5) 5 (by kernel_rfl) rfl (by kernel_rfl) (by kernel_rfl) (by kernel_rfl) ?_
          refine withFrP (N := 88) rfl ?_
          intro f0 F0 hff
          have e0 : f0 0 = Value.pointer (some ⟨hb, 1, none⟩) := hff 0
          have e3 : f0 3 = Value.pointer (some ⟨bx, 0, none⟩) := hff 3
          have e4 : f0 4 = Value.int .i64 (k + 1 : Nat) := hff 4
          clear hff
          have HCC : (fun wq => ∃ q : Nat, wq = wr.drewN q) (({ (wr.drewN nq) with drawn := (wr.drewN nq).drawn + 1 } : World)) := ⟨nq + 1, rfl⟩
          refine lyp F0 rfl HCC rfl (by omega) (wanted_none rfl) (v := Value.pointer (some ⟨hb, 1, none⟩)) (fun wr hwr => by simp only [execOp, (F0.eval 0 (by omega)).trans (show _ = Value.pointer (some ⟨hb, 1, none⟩) from by simp [upd, e0, e3, e4])]; first | rfl | simp [go_sem]) fun F1 => ?_
          refine lyp F1 rfl HCC rfl (by omega) (wanted_none rfl) (v := Value.int .i64 (k + 1 : Nat)) (fun wr hwr => by simp only [execOp, (F1.eval 4 (by omega)).trans (show _ = Value.int .i64 (k + 1 : Nat) from by simp [upd, e0, e3, e4])]; first | rfl | simp [go_sem]) fun F2 => ?_
          refine lcp F2 rfl HCC rfl (by omega) (wanted_none rfl) (g := 27) (args := #[Value.pointer (some ⟨hb, 1, none⟩), Value.int .i64 (k + 1 : Nat)]) (by simp only [execOp, resolve, invoke, List.map_toArray, List.map_cons, List.map_nil, (F2.eval 76 (by omega)).trans (show _ = Value.pointer (some ⟨hb, 1, none⟩) from by simp [upd, e0, e3, e4]), (F2.eval 77 (by omega)).trans (show _ = Value.int .i64 (k + 1 : Nat) from by simp [upd, e0, e3, e4])]; simp [go_sem, Act.eval]) (HAK.out (nq + 1)) ?_
          rintro e w1 ⟨rfl, q2, hw1⟩
          have HC1 : (fun wq => ∃ q : Nat, wq = wr.drewN q) w1 := ⟨nq + 1 + q2, by rw [hw1, World.drewN_drewN]⟩
          refine ⟨_, rfl, fun F3 => ?_⟩
          refine lyp F3 rfl HC1 rfl (by omega) (wanted_none rfl) (v := Value.agg #[.int .i64 r.s, .int .i64 r.i, .int .i64 r.e, .int .i64 r.v]) (fun wr hwr => by obtain ⟨q, rfl⟩ := hwr; simp only [execOp, (F3.eval 3 (by omega)).trans (show _ = Value.pointer (some ⟨bx, 0, none⟩) from by simp [upd, e0, e3, e4])]; simp [go_sem, b0, b1, b2, b3]) fun F4 => ?_
          refine lyp F4 rfl HC1 rfl (by omega) (wanted_none rfl) (v := Value.pointer (some ⟨hb, o, none⟩)) (fun wr hwr => by simp only [execOp, (F4.eval 78 (by omega)).trans (show _ = Value.pointer (some ⟨hb, o, none⟩) from by simp [upd, e0, e3, e4])]; simp [go_sem]) fun F5 => ?_
          obtain ⟨q3, hq3⟩ := HC1
          subst hq3
          clear hw1
          refine lst rfl ⟨q3, rfl⟩ rfl (wanted_none rfl) (w1 := ((((wr.drewN q3).setCell ⟨hb, o, none⟩ (.int .i64 r.s)).setCell ⟨hb, o + 1, none⟩ (.int .i64 r.i)).setCell ⟨hb, o + 2, none⟩ (.int .i64 r.e)).setCell ⟨hb, o + 3, none⟩ (.int .i64 r.v)) (by simp only [execOp, (F5.eval 80 (by omega)).trans (show _ = Value.pointer (some ⟨hb, o, none⟩) from by simp [upd, e0, e3, e4]), (F5.eval 79 (by omega)).trans (show _ = Value.agg #[.int .i64 r.s, .int .i64 r.i, .int .i64 r.e, .int .i64 r.v] from by simp [upd, e0, e3, e4])]; simp [go_sem, u0, u1, u2, u3, y0, y1, y2, y3]) ?_
          refine ⟨fun h => by omega, ?_⟩
          clear F0 F1 F2 F3 F4 F5 e0 e3 e4 HCC
          simp only [Act.put, List.setIfInBounds_toArray, List.set_cons_succ, List.set_cons_zero]
          obtain ⟨Z, hZ⟩ : ∃ Z, Z = ((((wr.drewN q3).setCell ⟨hb, o, none⟩ (.int .i64 r.s)).setCell ⟨hb, o + 1, none⟩ (.int .i64 r.i)).setCell ⟨hb, o + 2, none⟩ (.int .i64 r.e)).setCell ⟨hb, o + 3, none⟩ (.int .i64 r.v) := ⟨_, rfl⟩
          have z67 : Z.cell? ⟨hb, 67, none⟩ = some (.int .i64 (Rr.length : Nat)) := by
            rw [hZ]
            obtain ⟨⟨C, sl, h1, h2, _⟩, _⟩ := FIN.out q3
            rw [(set4_blk h1 o _ _ _ _).1.cell, set4_get _ _ _ _ _ _ _ (by rw [h2.size]; omega), if_neg (by omega), if_neg (by omega), if_neg (by omega), if_neg (by omega)]
            exact h2.c67
          have zf : Z.frozen? ⟨hb, 67, none⟩ = false := by
            rw [hZ]
            obtain ⟨⟨C, sl, h1, h2, _⟩, _⟩ := FIN.out q3
            exact (set4_blk h1 o _ _ _ _).1.frozen 67
          have HFN : Hid _ := (FIN.out q3).fin hff hm hRn HOO.out (Z.setCell ⟨hb, 67, none⟩ (.int .i64 ((Rr.length : Int) + 1))) (by rw [hZ])
          rw [← hZ]
          clear hZ u0 u1 u2 u3 y0 y1 y2 y3 b0 b1 b2 b3 FIN HAK HAT HSL
          go_wp2_with fail
          go_end0
          exact ⟨⟨_, rfl⟩, _, HPUT.out _ HINS.out, HFN.out.1, HFN.out.2⟩
/-- A reply is put into the ring. -/
theorem put_any {hb m : Nat} {la : Int} {R : List Rp} (r : Rp) (w : World) (hH : Hist w hb m la R) (hmp : 0 < m) :
    Calls Try.prog 22 #[.pointer (some ⟨hb, 1, none⟩), .agg (rpA r)] w fun e w' => (∃ v, e = .returned v) ∧ ∃ R', RPut m r R R' ∧ Hist w' hb m la R' ∧ Chg (fun k => k = hb) w w' := by
  by_cases h : R.length < m
  · exact put_room r w hH hmp h
  · refine put_full r w hH hmp ?_
    obtain ⟨_, _, _, _, _, _, _, hl, _⟩ := hH
    omega
end Go.Proofs.Ytadfmnlkfcigoaa
