import Derived.Test.YtkdndfdofhnagaaDoorRun
namespace Go.Proofs.YtkdndfdofhnagaaDoor
open Go.RowKit Go.PlainAid
set_option linter.unusedVariables false
set_option linter.unusedSimpArgs false
theorem PInv.frame {S : Sens} {L : Nat} {a : PA} {p : PS} {cr : CS} {w w' : World} {A : Nat → Prop} (h : PInv S L a p cr w) (hs : Sen S L w') (hc : Chg A w w') (hA : ∀ k, A k → ¬ a.has p k) : PInv S L a p cr w' := by
  have n := fun k (hk : a.core p.v k) (e : A k) => hA k e (Or.inr (Or.inl hk))
  have c := h.core
  exact ⟨⟨hs, c.bk.keep hc (n _ (Or.inl (Or.inl rfl))) (n _ (Or.inl (Or.inr (Or.inl rfl)))), c.rk.keep hc (n _ (Or.inr (Or.inl rfl))) (fun k e => n k (Or.inr (Or.inr (Or.inr (Or.inr e))))), hc.blk c.l0 (n _ (Or.inl (Or.inr (Or.inr (Or.inl rfl))))), hc.blk c.l1 (n _ (Or.inl (Or.inr (Or.inr (Or.inr rfl))))), hc.blk c.q0 (n _ (Or.inr (Or.inr (Or.inl rfl)))), hc.blk c.q1 (n _ (Or.inr (Or.inr (Or.inr (Or.inl rfl))))), c.nl, c.nq, c.lo⟩, h.sh.chg hc (fun k hk e => hA k e (Or.inr (Or.inr hk))), hc.blk h.box (fun e => hA _ e (Or.inl rfl)), h.lo⟩
/-- Two pairs that lie apart. -/
structure R2 (S : Sens) (La Lb : Nat) (a b : PA) (k : Nat) (p q : PS) (W w : World) : Prop where
  ia : PInv S La a p p.c w
  ga : Gd k p
  ib : PInv S Lb b q q.c w
  gb : Gd k q
  dj : ∀ j, a.has p j → ¬ b.has q j
  sen : Sen S W.heap.size W
  bel : Below W.heap.size W w
  la : W.heap.size ≤ La
  lb : W.heap.size ≤ Lb
section
variable {S : Sens} {La Lb k : Nat} {a b : PA} {p q p' : PS} {W w w' : World}
theorem R2.swap (h : R2 S La Lb a b k p q W w) : R2 S Lb La b a k q p W w := ⟨h.ib, h.gb, h.ia, h.ga, fun j h1 h2 => h.dj j h2 h1, h.sen, h.bel, h.lb, h.la⟩
theorem R2.up (h : R2 S La Lb a b k p q W w) : R2 S La Lb a b (k + 1) p q W w := ⟨h.ia, h.ga.up (Nat.le_succ _), h.ib, h.gb.up (Nat.le_succ _), h.dj, h.sen, h.bel, h.la, h.lb⟩
theorem R2.more (h : R2 S La Lb a b k p q W w) (hb : Below w.heap.size w w') : R2 S La Lb a b k p q W w' := ⟨h.ia.below hb, h.ga, h.ib.below hb, h.gb, h.dj, h.sen, h.bel.trans (hb.mono h.bel.size), h.la, h.lb⟩
theorem R2.play (h : R2 S La Lb a b k p q W w) (hI : PInv S La a p' p'.c w') (hs : PStp a p p' w w') (hG : Gd (k + 1) p') : R2 S La Lb a b (k + 1) p' q W w' := by
  have hb : Below W.heap.size W w' := h.bel.trans ((h.ia.stp hs).mono h.la)
  refine ⟨hI, hG, h.ib.frame ((h.sen.below hb).up h.lb) hs.chg h.dj, h.gb.up (Nat.le_succ _), fun j h1 h2 => ?_, h.sen, hb, h.la, h.lb⟩
  rcases hs.new j h1 with h3 | h3
  · exact h.dj j h3 h2
  · have := h.ib.lt h2; omega
theorem R2.rest (h : R2 S La Lb a b k p q W w) (hc : Chg p.z.has w w') : PInv S Lb b q q.c w' ∧ Below W.heap.size W w' := by
  have hb : Below W.heap.size W w' := h.bel.trans ((hc.below h.ia.core.low (fun k hk => (h.ia.sh.typ hk).1)).mono h.la)
  exact ⟨h.ib.frame ((h.sen.below hb).up h.lb) hc (fun j hj => h.dj j (Or.inr (Or.inr hj))), hb⟩
end
def R2k (S : Sens) (La Lb : Nat) (a b : PA) (k : Nat) (W w : World) : Prop := ∃ p q, R2 S La Lb a b k p q W w
set_option maxRecDepth 100000 in
set_option maxHeartbeats 6400000 in
theorem all_0 {S : Sens} (me room other : Int) (ao : Option Addr) (N cap : Nat) (os : List OpA) (W : World) (hS : Sen S W.heap.size W) (hN : os.length = N) (hbig : ¬ (400 : Int) < N) (hat : 0 < N → ∃ b off, ao = some ⟨b, off, none⟩ ∧ ∀ i o, os[i]? = some o → OpAt W b (off + i * 4) o) (hca : ncode me room ≠ 0) (hcb : ncode other room ≠ 0) :
    Calls Tryd.prog 3 #[.int .i64 me, .int .i64 room, .int .i64 other, .slice ao N cap] W fun e W' => e = .returned (.bool true) ∧ Below W.heap.size W W' := by
  have HA : Hid _ := alive_any W hS (Nat.le_refl _)
  have HT : Hid _ := hat
  have HS : Hid _ := hS
  have HL : Hid _ := hN
  clear hat hS hN
  go_enter Tryd.func3, Tryd.ntmps3
  go_wp2_with fail
  refine Calls.mono HA.out ?_
  rintro e w1 ⟨rfl, hb1⟩
  have HB1 : Hid _ := hb1
  have HM : Hid _ := made_no w1 me room hca
  clear hb1
  go_wp2_with fail
  refine Calls.mono HM.out ?_
  rintro e w2 ⟨rfl, hw2⟩
  replace hw2 := hw2.symm
  subst hw2
  have HB2 : Hid _ := HB1.out
  clear HM
  have HM : Hid _ := made_no w1 other room hcb
  go_wp2_with fail
  refine Calls.mono HM.out ?_
  rintro e w3 ⟨rfl, hw3⟩
  replace hw3 := hw3.symm
  subst hw3
  clear HM
  have HR0 : Hid _ := HB2.out
  clear HB1 HB2 HA
  go_wp2_with fail
  go_loopw [14, 15] (fun i _ wr => ∃ k : Nat, k ≤ N ∧ i = .int .i64 k ∧ Below W.heap.size W wr) (fun i _ _ => N - (intOf i).toNat)
  case atStart => exact ⟨0, Nat.zero_le _, rfl, HR0.out⟩
  case round =>
    obtain ⟨k, hk, rfl, hR⟩ := hrel
    clear HR0
    by_cases hlt : k < N
    · obtain ⟨⟨K, A, B, ob⟩, ho⟩ : ∃ o, os[k]? = some o := ⟨os[k]'(by rw [HL.out]; exact hlt), List.getElem?_eq_getElem _⟩
      obtain ⟨g, off, rfl, hcell⟩ := HT.out (by omega)
      obtain ⟨d0, d1, d2, d3, x1, x2⟩ := (hcell k _ ho).keep hR
      simp only at d0 d1 d2 d3 x1 x2
      clear ho hcell
      by_cases hev : k % 2 = 0
      · have hm : ((k : Nat) : Int).tmod 2 = 0 := by rw [Int.tmod_eq_emod_of_nonneg (by omega)]; omega
        clear hev
        have HN : Hid _ := hR
        clear hR x1 x2
        go_wp2_with fail
        go_roundw
        case rel => exact ⟨k + 1, by omega, by go_num, HN.out⟩
        case measure => simp [intOf]; omega
      · have hm : ((k : Nat) : Int).tmod 2 = 1 := by rw [Int.tmod_eq_emod_of_nonneg (by omega)]; omega
        clear hev
        have HN : Hid _ := hR
        clear hR x1 x2
        go_wp2_with fail
        go_roundw
        case rel => exact ⟨k + 1, by omega, by go_num, HN.out⟩
        case measure => simp [intOf]; omega
    · have HF : Hid _ := hR
      clear hR
      go_wp2_with fail
      go_ret
      exact ⟨rfl, HF.out⟩
set_option maxRecDepth 100000 in
set_option maxHeartbeats 6400000 in
theorem all_a {S : Sens} (me room other : Int) (ao : Option Addr) (N cap : Nat) (os : List OpA) (W : World) (hS : Sen S W.heap.size W) (hN : os.length = N) (hbig : ¬ (400 : Int) < N) (hat : 0 < N → ∃ b off, ao = some ⟨b, off, none⟩ ∧ ∀ i o, os[i]? = some o → OpAt W b (off + i * 4) o) (hca : ncode me room = 0) (hcb : ncode other room ≠ 0) :
    Calls Tryd.prog 3 #[.int .i64 me, .int .i64 room, .int .i64 other, .slice ao N cap] W fun e W' => e = .returned (.bool true) ∧ Below W.heap.size W W' := by
  have HA : Hid _ := alive_any W hS (Nat.le_refl _)
  have HT : Hid _ := hat
  have HS : Hid _ := hS
  have HL : Hid _ := hN
  clear hat hS hN
  go_enter Tryd.func3, Tryd.ntmps3
  go_wp2_with fail
  refine Calls.mono HA.out ?_
  rintro e w1 ⟨rfl, hb1⟩
  have HB1 : Hid _ := hb1
  have HM : Hid _ := made_yes w1 (HS.out.below hb1) hb1.size me room hca
  clear hb1
  go_wp2_with fail
  refine Calls.mono HM.out ?_
  rintro e w2 ⟨a, rfl, hIa, hb2⟩
  have HIa : Hid _ := hIa
  have HB2 : Hid _ := HB1.out.trans (hb2.mono HB1.out.size)
  clear hIa hb2 HM
  have HM : Hid _ := made_no w2 other room hcb
  go_wp2_with fail
  refine Calls.mono HM.out ?_
  rintro e w3 ⟨rfl, hw3⟩
  replace hw3 := hw3.symm
  subst hw3
  clear HM
  have HR0 : Hid _ := (show RS S w1.heap.size a 0 W w2 from ⟨⟨ps0 me room, HIa.out, gd0 me room hca⟩, HB2.out, HB1.out.size⟩)
  clear HIa HB1 HB2 HA
  generalize w1.heap.size = La at *
  go_wp2_with fail
  go_loopw [14, 15] (fun i _ wr => ∃ k : Nat, k ≤ N ∧ i = .int .i64 k ∧ RS S La a k W wr) (fun i _ _ => N - (intOf i).toNat)
  case atStart => exact ⟨0, Nat.zero_le _, rfl, HR0.out⟩
  case round =>
    obtain ⟨k, hk, rfl, hR⟩ := hrel
    clear HR0
    obtain ⟨p, hI, hG⟩ := hR.ex
    by_cases hlt : k < N
    · obtain ⟨⟨K, A, B, ob⟩, ho⟩ : ∃ o, os[k]? = some o := ⟨os[k]'(by rw [HL.out]; exact hlt), List.getElem?_eq_getElem _⟩
      obtain ⟨g, off, rfl, hcell⟩ := HT.out (by omega)
      obtain ⟨d0, d1, d2, d3, x1, x2⟩ := (hcell k _ ho).keep hR.bel
      simp only at d0 d1 d2 d3 x1 x2
      clear ho hcell
      by_cases hev : k % 2 = 0
      · have hm : ((k : Nat) : Int).tmod 2 = 0 := by rw [Int.tmod_eq_emod_of_nonneg (by omega)]; omega
        clear hev
        have HP : Hid _ := plays_any wr hI hG (by omega) K A B ob x1 x2
        have HR : Hid _ := hR
        have HI : Hid _ := hI
        clear hR x1 x2 hI hG
        go_wp2_with fail
        refine Calls.mono HP.out ?_
        rintro e w4 ⟨rfl, hp⟩
        obtain ⟨p2, y1, y2, y3, y4⟩ := hp.ex
        have h2 : RS S La a (k + 1) W w4 := ⟨⟨p2, y1, y3⟩, HR.out.bel.trans ((HI.out.stp y2).mono HR.out.le), HR.out.le⟩
        have HT1 : Hid _ := stands_any w4 y1.sh y3.full y1.c6 y1.c7
        have H2 : Hid _ := h2
        have HI2 : Hid _ := y1
        have HG2 : Hid _ := y3
        clear hp y1 y2 y3 y4 h2 HP HR HI
        go_wp2_with fail
        refine Calls.mono HT1.out ?_
        rintro e w5 ⟨rfl, q5, rfl⟩
        have HN : Hid _ := (show RS S La a (k + 1) W (w4.drewN q5) from ⟨⟨p2, HI2.out.drewN q5, HG2.out⟩, H2.out.bel.trans ((below_drewN q5 (Below.refl w4.heap.size _)).mono H2.out.bel.size), H2.out.le⟩)
        generalize w4.drewN q5 = w5 at *
        clear HT1 H2
        go_wp2_with fail
        go_roundw
        case rel => exact ⟨k + 1, by omega, by go_num, HN.out⟩
        case measure => simp [intOf]; omega
      · have hm : ((k : Nat) : Int).tmod 2 = 1 := by rw [Int.tmod_eq_emod_of_nonneg (by omega)]; omega
        clear hev
        have HT1 : Hid _ := stands_any wr hI.sh hG.full hI.c6 hI.c7
        have HR : Hid _ := hR
        have HI : Hid _ := hI
        have HG : Hid _ := hG
        clear hR x1 x2 hI hG
        go_wp2_with fail
        refine Calls.mono HT1.out ?_
        rintro e w5 ⟨rfl, q5, rfl⟩
        have HN : Hid _ := (show RS S La a (k + 1) W (wr.drewN q5) from ⟨⟨p, HI.out.drewN q5, HG.out.up (Nat.le_succ _)⟩, HR.out.bel.trans ((below_drewN q5 (Below.refl wr.heap.size _)).mono HR.out.bel.size), HR.out.le⟩)
        generalize wr.drewN q5 = w5 at *
        clear HT1 HR
        go_wp2_with fail
        go_roundw
        case rel => exact ⟨k + 1, by omega, by go_num, HN.out⟩
        case measure => simp [intOf]; omega
    · have HP : Hid _ := hI.apartC hG (by omega)
      have HI : Hid _ := hI
      have HR : Hid _ := hR
      clear hI hG hR
      go_wp2_with fail
      refine Calls.mono HP.out ?_
      rintro e w4 ⟨rfl, hc⟩
      have HF : Hid _ := HR.out.bel.trans ((hc.below HI.out.core.low (fun k hk => (HI.out.sh.typ hk).1)).mono HR.out.le)
      clear hc
      go_wp2_with fail
      go_ret
      exact ⟨rfl, HF.out⟩
set_option maxRecDepth 100000 in
set_option maxHeartbeats 6400000 in
theorem all_b {S : Sens} (me room other : Int) (ao : Option Addr) (N cap : Nat) (os : List OpA) (W : World) (hS : Sen S W.heap.size W) (hN : os.length = N) (hbig : ¬ (400 : Int) < N) (hat : 0 < N → ∃ b off, ao = some ⟨b, off, none⟩ ∧ ∀ i o, os[i]? = some o → OpAt W b (off + i * 4) o) (hca : ncode me room ≠ 0) (hcb : ncode other room = 0) :
    Calls Tryd.prog 3 #[.int .i64 me, .int .i64 room, .int .i64 other, .slice ao N cap] W fun e W' => e = .returned (.bool true) ∧ Below W.heap.size W W' := by
  have HA : Hid _ := alive_any W hS (Nat.le_refl _)
  have HT : Hid _ := hat
  have HS : Hid _ := hS
  have HL : Hid _ := hN
  clear hat hS hN
  go_enter Tryd.func3, Tryd.ntmps3
  go_wp2_with fail
  refine Calls.mono HA.out ?_
  rintro e w1 ⟨rfl, hb1⟩
  have HB1 : Hid _ := hb1
  have HM : Hid _ := made_no w1 me room hca
  clear hb1
  go_wp2_with fail
  refine Calls.mono HM.out ?_
  rintro e w2 ⟨rfl, hw2⟩
  replace hw2 := hw2.symm
  subst hw2
  have HB2 : Hid _ := HB1.out
  clear HM
  have HM : Hid _ := made_yes w1 (HS.out.below HB2.out) HB2.out.size other room hcb
  go_wp2_with fail
  refine Calls.mono HM.out ?_
  rintro e w3 ⟨b, rfl, hIb, hb3⟩
  have HIb : Hid _ := hIb
  have HB3 : Hid _ := hb3
  clear hIb hb3 HM
  have HR0 : Hid _ := (show RS S w1.heap.size b 0 W w3 from ⟨⟨ps0 other room, HIb.out, gd0 other room hcb⟩, HB2.out.trans (HB3.out.mono HB2.out.size), HB1.out.size⟩)
  clear HIb HB1 HB2 HB3 HA
  generalize w1.heap.size = Lb at *
  go_wp2_with fail
  go_loopw [14, 15] (fun i _ wr => ∃ k : Nat, k ≤ N ∧ i = .int .i64 k ∧ RS S Lb b k W wr) (fun i _ _ => N - (intOf i).toNat)
  case atStart => exact ⟨0, Nat.zero_le _, rfl, HR0.out⟩
  case round =>
    obtain ⟨k, hk, rfl, hR⟩ := hrel
    clear HR0
    obtain ⟨p, hI, hG⟩ := hR.ex
    by_cases hlt : k < N
    · obtain ⟨⟨K, A, B, ob⟩, ho⟩ : ∃ o, os[k]? = some o := ⟨os[k]'(by rw [HL.out]; exact hlt), List.getElem?_eq_getElem _⟩
      obtain ⟨g, off, rfl, hcell⟩ := HT.out (by omega)
      obtain ⟨d0, d1, d2, d3, x1, x2⟩ := (hcell k _ ho).keep hR.bel
      simp only at d0 d1 d2 d3 x1 x2
      clear ho hcell
      by_cases hev : k % 2 = 0
      · have hm : ((k : Nat) : Int).tmod 2 = 0 := by rw [Int.tmod_eq_emod_of_nonneg (by omega)]; omega
        clear hev
        have HT1 : Hid _ := stands_any wr hI.sh hG.full hI.c6 hI.c7
        have HR : Hid _ := hR
        have HI : Hid _ := hI
        have HG : Hid _ := hG
        clear hR x1 x2 hI hG
        go_wp2_with fail
        refine Calls.mono HT1.out ?_
        rintro e w5 ⟨rfl, q5, rfl⟩
        have HN : Hid _ := (show RS S Lb b (k + 1) W (wr.drewN q5) from ⟨⟨p, HI.out.drewN q5, HG.out.up (Nat.le_succ _)⟩, HR.out.bel.trans ((below_drewN q5 (Below.refl wr.heap.size _)).mono HR.out.bel.size), HR.out.le⟩)
        generalize wr.drewN q5 = w5 at *
        clear HT1 HR
        go_wp2_with fail
        go_roundw
        case rel => exact ⟨k + 1, by omega, by go_num, HN.out⟩
        case measure => simp [intOf]; omega
      · have hm : ((k : Nat) : Int).tmod 2 = 1 := by rw [Int.tmod_eq_emod_of_nonneg (by omega)]; omega
        clear hev
        have HP : Hid _ := plays_any wr hI hG (by omega) K A B ob x1 x2
        have HR : Hid _ := hR
        have HI : Hid _ := hI
        clear hR x1 x2 hI hG
        go_wp2_with fail
        refine Calls.mono HP.out ?_
        rintro e w4 ⟨rfl, hp⟩
        obtain ⟨p2, y1, y2, y3, y4⟩ := hp.ex
        have h2 : RS S Lb b (k + 1) W w4 := ⟨⟨p2, y1, y3⟩, HR.out.bel.trans ((HI.out.stp y2).mono HR.out.le), HR.out.le⟩
        have HT1 : Hid _ := stands_any w4 y1.sh y3.full y1.c6 y1.c7
        have H2 : Hid _ := h2
        have HI2 : Hid _ := y1
        have HG2 : Hid _ := y3
        clear hp y1 y2 y3 y4 h2 HP HR HI
        go_wp2_with fail
        refine Calls.mono HT1.out ?_
        rintro e w5 ⟨rfl, q5, rfl⟩
        have HN : Hid _ := (show RS S Lb b (k + 1) W (w4.drewN q5) from ⟨⟨p2, HI2.out.drewN q5, HG2.out⟩, H2.out.bel.trans ((below_drewN q5 (Below.refl w4.heap.size _)).mono H2.out.bel.size), H2.out.le⟩)
        generalize w4.drewN q5 = w5 at *
        clear HT1 H2
        go_wp2_with fail
        go_roundw
        case rel => exact ⟨k + 1, by omega, by go_num, HN.out⟩
        case measure => simp [intOf]; omega
    · have HP : Hid _ := hI.apartC hG (by omega)
      have HI : Hid _ := hI
      have HR : Hid _ := hR
      clear hI hG hR
      go_wp2_with fail
      refine Calls.mono HP.out ?_
      rintro e w4 ⟨rfl, hc⟩
      have HF : Hid _ := HR.out.bel.trans ((hc.below HI.out.core.low (fun k hk => (HI.out.sh.typ hk).1)).mono HR.out.le)
      clear hc
      go_wp2_with fail
      go_ret
      exact ⟨rfl, HF.out⟩
set_option maxRecDepth 100000 in
set_option maxHeartbeats 6400000 in
theorem all_ab {S : Sens} (me room other : Int) (ao : Option Addr) (N cap : Nat) (os : List OpA) (W : World) (hS : Sen S W.heap.size W) (hN : os.length = N) (hbig : ¬ (400 : Int) < N) (hat : 0 < N → ∃ b off, ao = some ⟨b, off, none⟩ ∧ ∀ i o, os[i]? = some o → OpAt W b (off + i * 4) o) (hca : ncode me room = 0) (hcb : ncode other room = 0) :
    Calls Tryd.prog 3 #[.int .i64 me, .int .i64 room, .int .i64 other, .slice ao N cap] W fun e W' => e = .returned (.bool true) ∧ Below W.heap.size W W' := by
  have HA : Hid _ := alive_any W hS (Nat.le_refl _)
  have HT : Hid _ := hat
  have HS : Hid _ := hS
  have HL : Hid _ := hN
  clear hat hS hN
  go_enter Tryd.func3, Tryd.ntmps3
  go_wp2_with fail
  refine Calls.mono HA.out ?_
  rintro e w1 ⟨rfl, hb1⟩
  have HB1 : Hid _ := hb1
  have HM : Hid _ := made_yes w1 (HS.out.below hb1) hb1.size me room hca
  clear hb1
  go_wp2_with fail
  refine Calls.mono HM.out ?_
  rintro e w2 ⟨a, rfl, hIa, hb2⟩
  have HIa : Hid _ := hIa
  have HB2 : Hid _ := HB1.out.trans (hb2.mono HB1.out.size)
  clear hIa hb2 HM
  have HM : Hid _ := made_yes w2 (HS.out.below HB2.out) HB2.out.size other room hcb
  go_wp2_with fail
  refine Calls.mono HM.out ?_
  rintro e w3 ⟨b, rfl, hIb, hb3⟩
  have HIb : Hid _ := hIb
  have HB3 : Hid _ := hb3
  clear hIb hb3 HM
  have HR0 : Hid _ := (show R2k S w1.heap.size w2.heap.size a b 0 W w3 from ⟨ps0 me room, ps0 other room, HIa.out.below HB3.out, gd0 me room hca, HIb.out, gd0 other room hcb, fun j h1 h2 => by have := HIa.out.lt h1; have := HIb.out.ge h2; omega, HS.out, HB2.out.trans (HB3.out.mono HB2.out.size), HB1.out.size, HB2.out.size⟩)
  clear HIa HIb HB1 HB2 HB3 HA
  generalize w1.heap.size = La at *
  generalize w2.heap.size = Lb at *
  go_wp2_with fail
  go_loopw [14, 15] (fun i _ wr => ∃ k : Nat, k ≤ N ∧ i = .int .i64 k ∧ R2k S La Lb a b k W wr) (fun i _ _ => N - (intOf i).toNat)
  case atStart => exact ⟨0, Nat.zero_le _, rfl, HR0.out⟩
  case round =>
    obtain ⟨k, hk, rfl, hR⟩ := hrel
    clear HR0
    obtain ⟨p, q, hR⟩ := hR
    by_cases hlt : k < N
    · obtain ⟨⟨K, A, B, ob⟩, ho⟩ : ∃ o, os[k]? = some o := ⟨os[k]'(by rw [HL.out]; exact hlt), List.getElem?_eq_getElem _⟩
      obtain ⟨g, off, rfl, hcell⟩ := HT.out (by omega)
      obtain ⟨d0, d1, d2, d3, x1, x2⟩ := (hcell k _ ho).keep hR.bel
      simp only at d0 d1 d2 d3 x1 x2
      clear ho hcell
      by_cases hev : k % 2 = 0
      · have hm : ((k : Nat) : Int).tmod 2 = 0 := by rw [Int.tmod_eq_emod_of_nonneg (by omega)]; omega
        clear hev
        have HP : Hid _ := plays_any wr hR.ia hR.ga (by omega) K A B ob x1 x2
        have HR : Hid _ := hR
        clear hR x1 x2
        go_wp2_with fail
        refine Calls.mono HP.out ?_
        rintro e w4 ⟨rfl, hp⟩
        obtain ⟨p2, y1, y2, y3, y4⟩ := hp.ex
        have h2 := HR.out.play y1 y2 y3
        have HT1 : Hid _ := stands_any w4 h2.ia.sh h2.ga.full h2.ia.c6 h2.ia.c7
        have H2 : Hid _ := h2
        clear hp y1 y2 y3 y4 h2 HP HR
        go_wp2_with fail
        refine Calls.mono HT1.out ?_
        rintro e w5 ⟨rfl, q5, rfl⟩
        have h3 := H2.out.more (below_drewN q5 (Below.refl _ _))
        generalize w4.drewN q5 = w5 at *
        have HT2 : Hid _ := stands_any w5 h3.ib.sh h3.gb.full h3.ib.c6 h3.ib.c7
        have H3 : Hid _ := h3
        clear h3 HT1 H2
        go_wp2_with fail
        refine Calls.mono HT2.out ?_
        rintro e w6 ⟨rfl, q6, rfl⟩
        have HN : Hid _ := (show R2k S La Lb a b (k + 1) W (w5.drewN q6) from ⟨_, _, H3.out.more (below_drewN q6 (Below.refl _ _))⟩)
        generalize w5.drewN q6 = w6 at *
        clear HT2 H3
        go_wp2_with fail
        go_roundw
        case rel => exact ⟨k + 1, by omega, by go_num, HN.out⟩
        case measure => simp [intOf]; omega
      · have hm : ((k : Nat) : Int).tmod 2 = 1 := by rw [Int.tmod_eq_emod_of_nonneg (by omega)]; omega
        clear hev
        have HP : Hid _ := plays_any wr hR.ib hR.gb (by omega) K A B ob x1 x2
        have HR : Hid _ := hR
        clear hR x1 x2
        go_wp2_with fail
        refine Calls.mono HP.out ?_
        rintro e w4 ⟨rfl, hp⟩
        obtain ⟨p2, y1, y2, y3, y4⟩ := hp.ex
        have h2 := (HR.out.swap.play y1 y2 y3).swap
        have HT1 : Hid _ := stands_any w4 h2.ia.sh h2.ga.full h2.ia.c6 h2.ia.c7
        have H2 : Hid _ := h2
        clear hp y1 y2 y3 y4 h2 HP HR
        go_wp2_with fail
        refine Calls.mono HT1.out ?_
        rintro e w5 ⟨rfl, q5, rfl⟩
        have h3 := H2.out.more (below_drewN q5 (Below.refl _ _))
        generalize w4.drewN q5 = w5 at *
        have HT2 : Hid _ := stands_any w5 h3.ib.sh h3.gb.full h3.ib.c6 h3.ib.c7
        have H3 : Hid _ := h3
        clear h3 HT1 H2
        go_wp2_with fail
        refine Calls.mono HT2.out ?_
        rintro e w6 ⟨rfl, q6, rfl⟩
        have HN : Hid _ := (show R2k S La Lb a b (k + 1) W (w5.drewN q6) from ⟨_, _, H3.out.more (below_drewN q6 (Below.refl _ _))⟩)
        generalize w5.drewN q6 = w6 at *
        clear HT2 H3
        go_wp2_with fail
        go_roundw
        case rel => exact ⟨k + 1, by omega, by go_num, HN.out⟩
        case measure => simp [intOf]; omega
    · have HP : Hid _ := hR.ia.apartC hR.ga (by omega)
      have HR : Hid _ := hR
      clear hR
      go_wp2_with fail
      refine Calls.mono HP.out ?_
      rintro e w4 ⟨rfl, hc⟩
      have h2 := HR.out.rest hc
      have HP2 : Hid _ := h2.1.apartC HR.out.gb (by omega)
      have H2 : Hid _ := h2
      have HLb : Hid _ := HR.out.lb
      clear hc h2 HP HR
      go_wp2_with fail
      refine Calls.mono HP2.out ?_
      rintro e w5 ⟨rfl, hc⟩
      have HF : Hid _ := H2.out.2.trans ((hc.below H2.out.1.core.low (fun k hk => (H2.out.1.sh.typ hk).1)).mono HLb.out)
      clear hc
      go_wp2_with fail
      go_ret
      exact ⟨rfl, HF.out⟩
set_option maxRecDepth 100000 in
theorem holdsAll_law {S : Sens} (me room other : Int) (ao : Option Addr) (N cap : Nat) (os : List OpA) (W : World) (hS : Sen S W.heap.size W) (hN : os.length = N) (hmax : N ≤ maxLen) (hat : 0 < N → ∃ b off, ao = some ⟨b, off, none⟩ ∧ ∀ i o, os[i]? = some o → OpAt W b (off + i * 4) o) :
    Calls Tryd.prog 3 #[.int .i64 me, .int .i64 room, .int .i64 other, .slice ao N cap] W fun e W' => e = .returned (.bool true) ∧ Below W.heap.size W W' := by
  by_cases hbig : (400 : Int) < N
  · have hmax' : N ≤ 9223372036854775807 := by simpa [maxLen] using hmax
    clear hS hN hat
    go_enter Tryd.func3, Tryd.ntmps3
    go_wp2_with fail
    go_ret
    exact ⟨rfl, Below.refl _ _⟩
  by_cases hca : ncode me room = 0
  · by_cases hcb : ncode other room = 0
    · exact all_ab me room other ao N cap os W hS hN hbig hat hca hcb
    · exact all_a me room other ao N cap os W hS hN hbig hat hca hcb
  · by_cases hcb : ncode other room = 0
    · exact all_b me room other ao N cap os W hS hN hbig hat hca hcb
    · exact all_0 me room other ao N cap os W hS hN hbig hat hca hcb
end Go.Proofs.YtkdndfdofhnagaaDoor
