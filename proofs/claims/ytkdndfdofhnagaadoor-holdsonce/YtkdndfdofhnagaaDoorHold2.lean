import Derived.Test.YtkdndfdofhnagaaDoorHold
namespace Go.Proofs.YtkdndfdofhnagaaDoor
open Go.RowKit Go.PlainAid
set_option linter.unusedVariables false
set_option linter.unusedSimpArgs false
def BS.hcode (b : BS) (s : LS) (am : Int) : Int := bif okAmt am then (bif decide (b.room ≤ b.L.length) then 71 else s.tcode 0 am) else 1
def BS.hnum (b : BS) (s : LS) (am : Int) : Int := bif b.hcode s am == 0 then (b.made + 1) * 16 + b.me else 0
def BS.hnext (b : BS) (s : LS) (am du : Int) : BS := bif b.hcode s am == 0 then { b with made := b.made + 1, L := b.L ++ [⟨b.made + 1, am, du⟩] } else b
def BS.hlnext (b : BS) (s : LS) (am : Int) : LS := bif b.hcode s am == 0 then s.tnext 0 2 am else s
set_option maxRecDepth 100000 in
set_option maxHeartbeats 1600000 in
theorem hold_any {S : Sens} {L hb mb lb : Nat} {b : BS} {s : LS} (w : World) (hS : Sen S L w) (hB : Bk hb mb b w) (hk : b.Ok) (h : Blk w lb s.cs 71) (ho : s.Ok) (hL : L ≤ lb) (hmade : b.made ≤ 1000000) (am du : Int) :
    Calls Tryd.prog 18 #[.pointer (some ⟨hb, 0, none⟩), .pointer (some ⟨lb, 0, none⟩), .int .i64 am, .int .i64 du] w fun r w' => r = .returned (.tuple #[.int .i64 (b.hnum s am), .int .i64 (b.hcode s am)]) ∧ Bk hb mb (b.hnext s am du) w' ∧ Blk w' lb (b.hlnext s am).cs 71 ∧ Chg (fun k => k = hb ∨ k = mb ∨ k = lb) w w' := by
  have hLw : L ≤ w.heap.size := Nat.le_of_lt (Nat.lt_of_le_of_lt hL h.lt)
  have hne : lb ≠ mb := h.ne_m hB.map
  have hne2 : lb ≠ hb := h.ne_t hB.blk (by decide)
  have hne3 := hB.ne
  have c1 := hB.c1
  have c3 := hB.c3
  have hln : ∀ q ty, (Builtin.len_ #[66] ty #[.map (some mb)]).run Tryd.prog (w.drewN q) = .ok (.int .i64 (b.L.length : Nat)) (w.drewN q) := fun q ty => (hB.map.same (w' := w.drewN q) rfl).len ty
  by_cases hA : okAmt am = true
  · obtain ⟨ha1, ha2⟩ : 1 ≤ am ∧ am ≤ 1099511627776 := by simpa [okAmt] using hA
    by_cases hr : b.room ≤ b.L.length
    · have ec : b.hcode s am = 71 := by simp [BS.hcode, hA, hr]
      rw [show b.hnum s am = 0 by simp [BS.hnum, ec], show b.hnext s am du = b by simp [BS.hnext, ec], show b.hlnext s am = s by simp [BS.hlnext, ec], ec]
      have HB : Hid _ := hB
      have HL : Hid _ := h
      generalize b.room = rm' at *
      generalize b.L.length = ll at *
      clear hB h hS hk ho ec hmade hA
      go_enter Tryd.func18, Tryd.ntmps18
      go_wp2_with fail
      go_quiet (fail)
      go_wp2_with fail
      go_ret2
      exact ⟨rfl, HB.out.keep (Chg.ofBelow (fun _ => False) (below_drewN _ (Below.refl _ _))) (by simp) (by simp), HL.out, (Chg.refl _ _).drewN _⟩
    · by_cases hc : s.tcode 0 am = 0
      · have ec : b.hcode s am = 0 := by simp [BS.hcode, hA, hr, hc]
        rw [show b.hnum s am = (b.made + 1) * 16 + b.me by simp [BS.hnum, ec], show b.hnext s am du = { b with made := b.made + 1, L := b.L ++ [⟨b.made + 1, am, du⟩] } by simp [BS.hnext, ec], show b.hlnext s am = s.tnext 0 2 am by simp [BS.hlnext, ec], ec]
        have hlk := fun q => lock_any (s := s) (w.drewN q) (hS.below (below_drewN q (Below.refl _ _))) (show Blk (w.drewN q) lb s.cs 71 from h) ho hL am
        rw [hc] at hlk
        have hm0 := hk.made0
        have hme0 := hk.me0
        have hme1 := hk.me1
        have hnew : ∀ x ∈ b.L, x.k ≠ b.made + 1 := fun x hx => by have := (hk.each x hx).2.1; omega
        have HB : Hid _ := hB
        have HN : Hid _ := hnew
        have HM : Hid _ := hmade
        have HK : Hid _ := hlk
        have HM2 : Hid _ := (⟨hm0, hme0, hme1⟩ : 0 ≤ b.made ∧ 0 ≤ b.me ∧ b.me < 16)
        obtain ⟨bme, broom, bmade, bL⟩ := b
        dsimp only at *
        generalize hll : bL.length = ll at *
        clear hB h hS hk ho ec hmade hA hnew hlk hll hm0 hme0 hme1
        go_enter Tryd.func18, Tryd.ntmps18
        go_wp2_with fail
        go_quiet (fail)
        go_wp2_with fail
        refine Calls.mono (HK.out _) ?_
        rintro e w2 ⟨rfl, hl2, hst2⟩
        have hch2 : Chg (fun k => k = lb) w w2 := ⟨hst2.os, hst2.tape, hst2.output, hst2.size, hst2.block⟩
        have hB2 := HB.out.keep hch2 (fun e => hne2 e.symm) (fun e => hne e.symm)
        have g2 := hB2.c2
        have z2 := hB2.blk.frozen 2
        dsimp only at g2
        have hw1 : IntKind.i64.wrap (bmade + 1) = bmade + 1 := by have := HM.out; have := HM2.out; rw [IntKind.wrap_i64]; omega
        have hB3b : Blk (w2.setCell ⟨hb, 2, none⟩ (.int .i64 (bmade + 1))) hb (BS.cs ⟨bme, broom, bmade + 1, bL⟩ mb) 68 := hB2.blk.set 2 _
        have hst3 := Stq.set hb 2 (.int .i64 (bmade + 1)) w2
        have hB3m : HMap (w2.setCell ⟨hb, 2, none⟩ (.int .i64 (bmade + 1))) mb bme bL := hB2.map.same (hst3.block mb hB2.map.lt (Ne.symm hne3))
        have hl3 := hst3.blk hl2 hne2
        have hch3 : Chg (fun k => k = hb ∨ k = mb ∨ k = lb) w (w2.setCell ⟨hb, 2, none⟩ (.int .i64 (bmade + 1))) := (hch2.mono (fun j _ e => Or.inr (Or.inr e))).trans (Chg.ofStq hst3) (fun j _ e => Or.inl e)
        clear hl2 hst2 hch2 hB2 hst3
        go_wp2_with fail
        generalize w2.setCell ⟨hb, 2, none⟩ (.int .i64 (bmade + 1)) = w3 at *
        clear g2 z2
        have d0 : w3.cell? ⟨hb, 0, none⟩ = some (.int .i64 bme) := hB3b.cell 0
        have d2 : w3.cell? ⟨hb, 2, none⟩ = some (.int .i64 (bmade + 1)) := hB3b.cell 2
        have hgz : Below w3.heap.size w3 (w3.alloc (.cells #[.int .i64 0, .int .i64 0] 78)) := (Below.refl _ _).alloc (Nat.le_refl _) _
        have e0 : (w3.alloc (.cells #[.int .i64 0, .int .i64 0] 78)).cell? ⟨hb, 0, none⟩ = some (.int .i64 bme) := (hgz.cell (p := ⟨hb, 0, none⟩) hB3b.lt).trans d0
        have e2 : (w3.alloc (.cells #[.int .i64 0, .int .i64 0] 78)).cell? ⟨hb, 2, none⟩ = some (.int .i64 (bmade + 1)) := (hgz.cell (p := ⟨hb, 2, none⟩) hB3b.lt).trans d2
        have HB3 : Hid _ := (show Bk hb mb ⟨bme, broom, bmade + 1, bL⟩ w3 from ⟨hB3b, hB3m⟩)
        have HL3 : Hid _ := hl3
        have HC3 : Hid _ := hch3
        clear hB3b hB3m hl3 hch3 hgz
        go_region
        all_goals
          go_wp2_with fail
          have hg4 : Below w3.heap.size w3 (w3.alloc (.cells #[.int .i64 bme, .int .i64 (bmade + 1)] 78)) := (Below.refl _ _).alloc (Nat.le_refl _) _
          have hB4 := HB3.out.keep (Chg.ofBelow (fun _ => False) hg4) (by simp) (by simp)
          have hl4 := Blk.below HL3.out hg4 (Blk.lt HL3.out)
          have hP4 : Blk (w3.alloc (.cells #[.int .i64 bme, .int .i64 (bmade + 1)] 78)) w3.heap.size #[.int .i64 bme, .int .i64 (bmade + 1)] 78 := heap_alloc_new w3 _
          have hc4 := HC3.out.trans (Chg.ofBelow (fun _ => False) hg4) (by simp)
          clear e0 e2 d0 d2 hg4
          generalize w3.alloc (.cells #[.int .i64 bme, .int .i64 (bmade + 1)] 78) = w4 at *
          have f3 := hB4.c3
          have p0 : w4.cell? ⟨w3.heap.size, 0, none⟩ = some (.int .i64 bme) := hP4.cell 0
          have p1 : w4.cell? ⟨w3.heap.size, 1, none⟩ = some (.int .i64 (bmade + 1)) := hP4.cell 1
          obtain ⟨w5, hput, hm5, hst5, hsz5⟩ := (hB4.map.same (w' := w4.drew.drew) rfl).put (bmade + 1) am du HN.out
          dsimp only at hput hm5
          unfold keyV holdV at hput
          have hP5 : Blk w5 w3.heap.size #[.int .i64 bme, .int .i64 (bmade + 1)] 78 := hst5.blk (show Blk w4.drew.drew _ _ _ from hP4) (hP4.ne_m hB4.map)
          have hB5 : Bk hb mb ⟨bme, broom, bmade + 1, bL ++ [⟨bmade + 1, am, du⟩]⟩ w5 := ⟨hst5.blk (show Blk w4.drew.drew _ _ _ from hB4.blk) hne3, hm5⟩
          have hl5 := hst5.blk (show Blk w4.drew.drew lb _ 71 from hl4) hne
          have hc5 := hc4.trans (b := w4) (B := fun k => k = mb) (c := w5) ⟨hst5.os, hst5.tape, hst5.output, hst5.size, hst5.block⟩ (fun j _ e => Or.inr (Or.inl e))
          have r0 : w5.cell? ⟨w3.heap.size, 0, none⟩ = some (.int .i64 bme) := hP5.cell 0
          have r1 : w5.cell? ⟨w3.heap.size, 1, none⟩ = some (.int .i64 (bmade + 1)) := hP5.cell 1
          have hnum := number_any bme (bmade + 1) w5 (by have := HM.out; have := HM2.out; rw [IntKind.wrap_i64]; omega) (by have := HM.out; have := HM2.out; rw [IntKind.wrap_i64]; omega)
          unfold keyV at hnum
          have HB5 : Hid _ := hB5
          have HL5 : Hid _ := hl5
          have HC5 : Hid _ := hc5
          clear hB4 hl4 hP4 hc4 hm5 hst5 hsz5 hP5 hB5 hl5 hc5
          go_region
          all_goals
            go_wp2_with fail
            refine hnum.mono ?_
            rintro e w6 ⟨rfl, rfl⟩
            have hg6 : Below w5.heap.size w5 (w5.alloc (.cells #[.int .i64 bme, .int .i64 (bmade + 1)] 78)) := (Below.refl _ _).alloc (Nat.le_refl _) _
            have HX : Hid _ := HB5.out.keep (Chg.ofBelow (fun _ => False) hg6) (by simp) (by simp)
            have HY : Hid _ := Blk.below HL5.out hg6 (Blk.lt HL5.out)
            have HZ : Hid _ := HC5.out.trans (Chg.ofBelow (fun _ => False) hg6) (by simp)
            clear hg6
            go_wp2_with fail
            go_ret2
            exact ⟨rfl, HX.out, HY.out, HZ.out⟩
      · have hcf : (s.tcode 0 am == 0) = false := by simpa using hc
        have ec : b.hcode s am = s.tcode 0 am := by simp [BS.hcode, hA, hr]
        rw [show b.hnum s am = 0 by simp [BS.hnum, ec, hcf], show b.hnext s am du = b by simp [BS.hnext, ec, hcf], show b.hlnext s am = s by simp [BS.hlnext, ec, hcf], ec]
        have hlk := fun q => lock_any (s := s) (w.drewN q) (hS.below (below_drewN q (Below.refl _ _))) (show Blk (w.drewN q) lb s.cs 71 from h) ho hL am
        rw [show s.tnext 0 2 am = s from by simp [LS.tnext, hc]] at hlk
        generalize s.tcode 0 am = cd at *
        have HB : Hid _ := hB
        have HK : Hid _ := hlk
        generalize b.room = rm' at *
        generalize b.L.length = ll at *
        clear hB h hS hk ho ec hmade hA hlk hcf
        go_enter Tryd.func18, Tryd.ntmps18
        go_wp2_with fail
        go_quiet (fail)
        go_wp2_with fail
        refine Calls.mono (HK.out _) ?_
        rintro e w2 ⟨rfl, hl2, hst2⟩
        have hch2 : Chg (fun k => k = lb) w w2 := ⟨hst2.os, hst2.tape, hst2.output, hst2.size, hst2.block⟩
        have HB2 : Hid _ := HB.out.keep hch2 (fun e => hne2 e.symm) (fun e => hne e.symm)
        have HL2 : Hid _ := hl2
        have HC2 : Hid _ := hch2.mono (B := fun k => k = hb ∨ k = mb ∨ k = lb) (fun j _ e => Or.inr (Or.inr e))
        clear hl2 hst2 hch2
        go_wp2_with fail
        go_ret2
        exact ⟨rfl, HB2.out, HL2.out, HC2.out⟩
  · have hAf : okAmt am = false := by simpa using hA
    have ec : b.hcode s am = 1 := by simp [BS.hcode, hAf]
    rw [show b.hnum s am = 0 by simp [BS.hnum, ec], show b.hnext s am du = b by simp [BS.hnext, ec], show b.hlnext s am = s by simp [BS.hlnext, ec], ec]
    have HB : Hid _ := hB
    have HL : Hid _ := h
    by_cases h1 : am < 1
    · clear hB h hS hk ho ec hmade hA hAf
      go_enter Tryd.func18, Tryd.ntmps18
      go_wp2_with fail
      go_ret2
      exact ⟨rfl, HB.out, HL.out, Chg.refl _ _⟩
    · have h2 : 1099511627776 < am := by simp [okAmt] at hAf; omega
      clear hB h hS hk ho ec hmade hA hAf
      go_enter Tryd.func18, Tryd.ntmps18
      go_wp2_with fail
      go_ret2
      exact ⟨rfl, HB.out, HL.out, Chg.refl _ _⟩
end Go.Proofs.YtkdndfdofhnagaaDoor
