import Derived.Test.YtcnokgphioigoaaJD
namespace Go.Proofs.Ytcnokgphioigoaa
open Go.RowKit Go.PlainAid
set_option linter.unusedVariables false
set_option linter.unusedSimpArgs false
/-- What is left of the fuse behind some writes. -/
theorem wroteX_arm (x : DV) (num next : Nat) (bs : List UInt8) : ∀ i, (x.armed = true → i ≤ x.whole) → (wroteX x num next bs i).off = x.off ∧ (wroteX x num next bs i).n = x.n ∧ (wroteX x num next bs i).armed = x.armed ∧ (wroteX x num next bs i).torn = x.torn ∧ (wroteX x num next bs i).whole = (if x.armed = true then x.whole - i else x.whole) ∧ (wroteX x num next bs i).writes = x.writes + i
  | 0, _ => ⟨rfl, rfl, rfl, rfl, by show x.whole = _; split <;> omega, rfl⟩
  | i + 1, hi => by
    obtain ⟨h1, h2, h3, h4, h5, h6⟩ := wroteX_arm x num next bs i (fun e => by have := hi e; omega)
    cases har : x.armed with
    | false =>
      have e : ((wroteX x num next bs i).noted (next + i)).dec = (wroteX x num next bs i).noted (next + i) := by
        unfold DV.dec
        rw [if_neg]
        show ¬ (wroteX x num next bs i).armed = true
        rw [h3, har]; simp
      rw [har] at h3 h5
      refine ⟨?_, ?_, ?_, ?_, ?_, ?_⟩
      · show (((wroteX x num next bs i).noted (next + i)).dec.put (next + i) 512 _).off = _
        rw [e]; exact h1
      · show (((wroteX x num next bs i).noted (next + i)).dec.put (next + i) 512 _).n = _
        rw [e]; exact h2
      · show (((wroteX x num next bs i).noted (next + i)).dec.put (next + i) 512 _).armed = _
        rw [e]; exact h3
      · show (((wroteX x num next bs i).noted (next + i)).dec.put (next + i) 512 _).torn = _
        rw [e]; exact h4
      · show (((wroteX x num next bs i).noted (next + i)).dec.put (next + i) 512 _).whole = _
        rw [e]; exact h5
      · show (((wroteX x num next bs i).noted (next + i)).dec.put (next + i) 512 _).writes = _
        rw [e]
        show (wroteX x num next bs i).writes + 1 = _
        omega
    | true =>
      have e : ((wroteX x num next bs i).noted (next + i)).dec = { (wroteX x num next bs i).noted (next + i) with whole := (wroteX x num next bs i).whole - 1 } := by
        unfold DV.dec
        rw [if_pos]
        · rfl
        · show (wroteX x num next bs i).armed = true
          rw [h3, har]
      rw [har] at h3 h5
      simp only [if_true] at h5
      refine ⟨?_, ?_, ?_, ?_, ?_, ?_⟩
      · show (((wroteX x num next bs i).noted (next + i)).dec.put (next + i) 512 _).off = _
        rw [e]; exact h1
      · show (((wroteX x num next bs i).noted (next + i)).dec.put (next + i) 512 _).n = _
        rw [e]; exact h2
      · show (((wroteX x num next bs i).noted (next + i)).dec.put (next + i) 512 _).armed = _
        rw [e]; exact h3
      · show (((wroteX x num next bs i).noted (next + i)).dec.put (next + i) 512 _).torn = _
        rw [e]; exact h4
      · show (((wroteX x num next bs i).noted (next + i)).dec.put (next + i) 512 _).whole = _
        rw [e]
        show (wroteX x num next bs i).whole - 1 = _
        rw [h5, if_pos rfl]; omega
      · show (((wroteX x num next bs i).noted (next + i)).dec.put (next + i) 512 _).writes = _
        rw [e]
        show (wroteX x num next bs i).writes + 1 = _
        omega
/-- A disk on which the power has failed in the midst of a record's sector. -/
def tornX (x : DV) (num next : Nat) (bs : List UInt8) (m : Nat) : DV := (((wroteX x num next bs m).noted (next + m)).put (next + m) x.torn (secJ (markL num m bs.length) (pieceL bs m))).offed
/-- How a record is written: whole, or the power fails. -/
def WrO (L jb s : Nat) (y : JV) (x : DV) (R : List (Ent L)) (bs : List UInt8) (k : Nat) (w : World) (e : Ending) (w' : World) : Prop :=
  ((x.armed = true → k ≤ x.whole) ∧ e = .returned (.int .i64 0) ∧ ∃ rv' v', Held ((y.added rv' v' bs).es L jb ++ (dmE L y.p s (wroteX x (y.recs.length + 1) y.next bs k) :: R)) w' ∧ Below L w w') ∨
  (x.armed = true ∧ x.whole < k ∧ e = .returned (.int .i64 200) ∧ Held (y.es L jb ++ (dmE L y.p s (tornX x (y.recs.length + 1) y.next bs x.whole) :: R)) w' ∧ Below L w w')
set_option maxRecDepth 100000 in
set_option maxHeartbeats 3200000 in
theorem jwrite_gen {L jb s : Nat} {y : JV} {x : DV} {R : List (Ent L)} {vo : Option Addr} {n c : Nat} {bs : List UInt8} (w : World) (h : Held (y.es L jb ++ (dmE L y.p s x :: R)) w) (hb : ∀ W, Below L w W → Held R W → By W (.slice vo n c) bs) (hc : n ≤ c) (hn : n ≤ 8192) (ho : x.off = false) (ht : x.torn ≤ 512) (hwh : x.whole ≤ 9223372036854775807) (hwr : x.writes ≤ 900000000000000000) (hr : y.recs.length ≤ 1000) (hx : y.next + kS n ≤ x.n) (hxn : x.n ≤ 65536) :
    Calls Try.prog 40 #[.pointer (some ⟨jb, 0, none⟩), .slice vo n c] w fun e w' => WrO L jb s y x R bs (kS n) w e w' := by
  have hkn := kS_le n hn
  have hL := jlow h
  have hbl : bs.length = n := by
    have hR : Held R w := Held.drop (Held.tailR h)
    obtain ⟨_, _, _, e, e2, _⟩ := hb w (Below.refl _ _) hR
    cases e; exact e2
  obtain ⟨k, hk⟩ : ∃ k, k = kS n := ⟨_, rfl⟩
  have HKN : Hid (k = kS n) := hk
  have HBL : Hid (bs.length = n ∧ n ≤ c ∧ n ≤ 8192) := ⟨hbl, hc, hn⟩
  have HBY : Hid (∀ W, Below L w W → Held R W → By W (.slice vo n c) bs) := hb
  have HK : Hid (∀ W : World, Calls Try.prog 39 #[.int .i64 (n : Int)] W fun e w' => e = .returned (.int .i64 (k : Int)) ∧ w' = W) := fun W => by rw [hk]; exact kS_any n W (by omega)
  have HX : Hid (∀ i, (x.armed = true → i ≤ x.whole) → (wroteX x (y.recs.length + 1) y.next bs i).off = false ∧ (wroteX x (y.recs.length + 1) y.next bs i).n = x.n ∧ (wroteX x (y.recs.length + 1) y.next bs i).armed = x.armed ∧ (wroteX x (y.recs.length + 1) y.next bs i).torn = x.torn ∧ (wroteX x (y.recs.length + 1) y.next bs i).whole = (if x.armed = true then x.whole - i else x.whole) ∧ (wroteX x (y.recs.length + 1) y.next bs i).writes = x.writes + i) := fun i hi => by
    have := wroteX_arm x (y.recs.length + 1) y.next bs i hi
    rwa [ho] at this
  have HT : Hid (x.torn ≤ 512) := ht
  have HB : Hid (x.whole ≤ 9223372036854775807 ∧ x.writes ≤ 900000000000000000 ∧ y.recs.length ≤ 1000 ∧ y.next + k ≤ x.n ∧ x.n ≤ 65536 ∧ k ≤ 17) := ⟨hwh, hwr, hr, by rw [hk]; exact hx, hxn, by rw [hk]; exact hkn⟩
  have HH : Hid (Held (y.es L jb ++ (dmE L y.p s x :: R)) w) := h
  have hkk : k ≤ 17 := HB.out.2.2.2.2.2
  rw [← hk]
  clear h hb hc hn ho ht hwh hwr hr hx hxn hbl hk hkn
  go_enter Try.func40, Try.ntmps40
  go_wp2_with fail
  refine Calls.mono (HK.out _) ?_
  rintro e wk ⟨rfl, hwk⟩
  replace hwk := hwk.symm
  subst hwk
  clear HK
  go_wp2_with fail
  go_loopw [10] (fun s10 wr => ∃ i : Nat, i ≤ k ∧ (x.armed = true → i ≤ x.whole) ∧ s10 = .int .i64 (i : Int) ∧ Held (y.es L jb ++ (dmE L y.p s (wroteX x (y.recs.length + 1) y.next bs i) :: R)) wr ∧ Below L w wr) (fun s10 _ => k - (intOf s10).toNat)
  case atStart => exact ⟨0, Nat.zero_le _, fun _ => Nat.zero_le _, rfl, HH.out, Below.refl _ _⟩
  case round =>
    clear HH
    obtain ⟨i, hi, hiw, rfl, hH, hb⟩ := hrel
    have HIW : Hid (x.armed = true → i ≤ x.whole) := hiw
    clear hiw
    have hBd := HB.out
    have hbl := HBL.out
    by_cases hlt : i < k
    · have HN : Hid _ := number_any wr hH (by omega)
      have HM : Hid (∀ W, Calls Try.prog 51 #[.int .i64 ((y.recs.length + 1 : Nat) : Int), .int .i64 (i : Int), .int .i64 (n : Int)] W fun e w' => e = .returned (.agg (markA (y.recs.length + 1) i n)) ∧ Below W.heap.size W w') := fun W => mark_any (y.recs.length + 1) i n W (by omega) (by omega) hbl.2.2
      have HHH : Hid (Held (y.es L jb ++ (dmE L y.p s (wroteX x (y.recs.length + 1) y.next bs i) :: R)) wr ∧ Below L w wr) := ⟨hH, hb⟩
      have hlw : L ≤ wr.heap.size := jlow hH
      clear hH hb
      obtain ⟨num, hnum⟩ : ∃ num, num = y.recs.length + 1 := ⟨_, rfl⟩
      rw [← hnum] at HN HM
      have HNU : Hid (num = y.recs.length + 1) := hnum
      clear hnum hBd hbl
      go_wp2_with fail
      refine Calls.mono HN.out ?_
      rintro e w1 ⟨rfl, hw1⟩
      replace hw1 := hw1.symm
      subst hw1
      clear HN
      go_wp2_with fail
      refine Calls.mono (HM.out _) ?_
      rintro e w1 ⟨rfl, hb1⟩
      clear HM
      have hb1' : Below L wr w1 := hb1.mono hlw
      have h1 := HHH.out.1.more hb1
      have hR1 : Held R w1 := Held.drop (Held.tailR h1)
      have hby1 := HBY.out w1 (HHH.out.2.trans hb1') hR1
      have HP : Hid _ := part_any (place := i) w1 hby1 HBL.out.2.1 HBL.out.2.2 (by rw [← HKN.out]; exact hlt)
      have H1 : Hid (Held (y.es L jb ++ (dmE L y.p s (wroteX x (y.recs.length + 1) y.next bs i) :: R)) w1 ∧ Below L w w1) := ⟨h1, HHH.out.2.trans hb1'⟩
      clear hb1 hb1' h1 hR1 hby1 HHH hlw
      have e3 : markA num i n = ((markL num i n).map B).toArray := rfl
      rw [e3]
      clear e3
      go_wp2_with fail
      refine Calls.mono HP.out ?_
      rintro e w2 ⟨pv, rfl, hpb, hw2⟩
      replace hw2 := hw2.symm
      subst hw2
      clear HP
      have HSC : Hid _ := sector_any (m := markL num i n) w1 (markL_len _ _ _) hpb (pieceL_len bs i)
      clear hpb
      go_wp2_with fail
      refine Calls.mono HSC.out ?_
      rintro e w3 ⟨sv, rfl, hsr, hb3⟩
      clear HSC
      have hlw : L ≤ w1.heap.size := jlow H1.out.1
      have h3 := H1.out.1.more hb3
      have hb3' : Below L w w3 := H1.out.2.trans (hb3.mono hlw)
      have hd3 : DM L y.p s (wroteX x (y.recs.length + 1) y.next bs i) w3 := h3.all (dmE L y.p s (wroteX x (y.recs.length + 1) y.next bs i)) (by simp)
      have c0 : w3.cell? ⟨jb, 0, none⟩ = some (.pointer (some ⟨y.p, 0, none⟩)) := (jbox h3).cell 0
      have c2 : w3.cell? ⟨jb, 2, none⟩ = some (.int .i64 (y.next : Int)) := (jbox h3).cell 2
      obtain ⟨sao, sc, hsv, hsc⟩ := own_slice hsr
      have hx := HX.out i HIW.out
      have hB := HB.out
      have hnp : ∀ ad k c, sv = .slice (some ad) k c → ad.block ≠ y.p := fun ad k c e => by
        have h5 : sv.ownBlock = some ad.block := by rw [e]; rfl
        have h6 := (ownsRow_lt hsr h5).1
        have h7 := (((h1d H1.out.1).lt (Or.inl rfl)).2 : y.p < w1.heap.size)
        omega
      by_cases hgo : x.armed = true → i + 1 ≤ x.whole
      · have HWR : Hid (∀ W, Below w3.heap.size w3 W → Calls Try.prog 56 #[.pointer (some ⟨y.p, 0, none⟩), .int .i64 ((y.next : Int) + (i : Int)), sv] W fun e w' => e = .returned (.int .i64 0) ∧ DM L y.p s (wroteX x (y.recs.length + 1) y.next bs (i + 1)) w' ∧ Chg (down y.p s) w3 w') := fun W hW => by
          have h5 := write_whole (y.next + i) W (hd3.more hW) hx.1 (by rw [hx.2.1]; omega) (secJ_len _ _) ((own_by (by rw [secJ_len]; exact hsr)).keep hW) hnp (fun e => by rw [hx.2.2.1] at e; have := hgo e; rw [hx.2.2.2.2.1, if_pos e]; omega) (by rw [hx.2.2.2.2.1]; have := hB.1; split <;> omega) (by rw [hx.2.2.2.2.2]; omega)
          rw [show ((y.next + i : Nat) : Int) = (y.next : Int) + (i : Int) by omega] at h5
          refine h5.mono ?_
          rintro e w' ⟨k1, k2, k3⟩
          refine ⟨k1, ?_, ((Chg.ofBelow (down y.p s) hW).trans k3 (fun _ _ e => e))⟩
          have : wroteX x (y.recs.length + 1) y.next bs (i + 1) = ((wroteX x (y.recs.length + 1) y.next bs i).noted (y.next + i)).dec.put (y.next + i) 512 (secJ (markL (y.recs.length + 1) i bs.length) (pieceL bs i)) := rfl
          rw [this, HBL.out.1]
          rw [HNU.out] at k2
          exact k2
        have HGO : Hid (x.armed = true → i + 1 ≤ x.whole) := hgo
        have H3 : Hid (Held (y.es L jb ++ (dmE L y.p s (wroteX x (y.recs.length + 1) y.next bs i) :: R)) w3 ∧ Below L w w3 ∧ L ≤ w3.heap.size) := ⟨h3, hb3', Nat.le_trans hlw hb3.size⟩
        have hnx : y.next ≤ 65536 := by omega
        obtain ⟨nx, hnx'⟩ : ∃ nx, nx = y.next := ⟨_, rfl⟩
        have E9 : Hid (IntKind.i64.wrap ((nx : Int) + (i : Int)) = (y.next : Int) + (i : Int)) := by rw [Hid, IntKind.wrap_i64, hnx']; omega
        rw [← hnx'] at c2 hnx
        subst hsv
        clear hgo H1 hsr hb3 h3 hb3' hd3 hx hB hnp hnx' hsc hlw
        go_wp2_with fail
        go_region_with (go_at_call 56; rw [E9.out]; refine (HWR.out _ (by first | exact Below.refl _ _ | exact (Below.refl _ _).drew)).mono ?_; rintro e w4 ⟨rfl, hd4, hc4⟩)
        all_goals
          have HN2 : Hid (Held (y.es L jb ++ (dmE L y.p s (wroteX x (y.recs.length + 1) y.next bs (i + 1)) :: R)) w4 ∧ Below L w w4) := ⟨held_disk H3.out.1 hd4 hc4, H3.out.2.1.trans (hc4.below H3.out.2.2 (fun k hk => ((h1d H3.out.1).lt hk).1))⟩
          clear hd4 hc4 HWR H3
          go_wp2_with fail
          go_roundw
          case rel => exact ⟨i + 1, by omega, HGO.out, by go_num, by first | exact ⟨HN2.out.1, HN2.out.2⟩ | exact ⟨HN2.out.1.drewN 1, below_dr HN2.out.2 1⟩⟩
          case measure => simp [intOf]; omega
      · obtain ⟨har, hwi⟩ : x.armed = true ∧ x.whole = i := by
          by_cases e : x.armed = true
          · exact ⟨e, by have := HIW.out e; have : ¬ i + 1 ≤ x.whole := fun h => hgo (fun _ => h); omega⟩
          · exact absurd (fun h => absurd h e) hgo
        have HWR : Hid (∀ W, Below w3.heap.size w3 W → Calls Try.prog 56 #[.pointer (some ⟨y.p, 0, none⟩), .int .i64 ((y.next : Int) + (i : Int)), sv] W fun e w' => e = .returned (.int .i64 200) ∧ DM L y.p s (tornX x (y.recs.length + 1) y.next bs x.whole) w' ∧ Chg (down y.p s) w3 w') := fun W hW => by
          have h5 := write_torn (y.next + i) W (hd3.more hW) hx.1 (by rw [hx.2.1]; omega) (secJ_len _ _) ((own_by (by rw [secJ_len]; exact hsr)).keep hW) hnp (by rw [hx.2.2.1]; exact har) (by rw [hx.2.2.2.2.1, if_pos har]; omega) (by rw [hx.2.2.2.1]; exact HT.out) (by rw [hx.2.2.2.2.2]; omega)
          rw [show ((y.next + i : Nat) : Int) = (y.next : Int) + (i : Int) by omega] at h5
          refine h5.mono ?_
          rintro e w' ⟨k1, k2, k3⟩
          refine ⟨k1, ?_, ((Chg.ofBelow (down y.p s) hW).trans k3 (fun _ _ e => e))⟩
          unfold tornX
          rw [hwi, HBL.out.1]
          rw [HNU.out, hx.2.2.2.1] at k2
          exact k2
        have HAR : Hid (x.armed = true ∧ x.whole < k) := ⟨har, by omega⟩
        have H3 : Hid (Held (y.es L jb ++ (dmE L y.p s (wroteX x (y.recs.length + 1) y.next bs i) :: R)) w3 ∧ Below L w w3 ∧ L ≤ w3.heap.size) := ⟨h3, hb3', Nat.le_trans hlw hb3.size⟩
        have hnx : y.next ≤ 65536 := by omega
        obtain ⟨nx, hnx'⟩ : ∃ nx, nx = y.next := ⟨_, rfl⟩
        have E9 : Hid (IntKind.i64.wrap ((nx : Int) + (i : Int)) = (y.next : Int) + (i : Int)) := by rw [Hid, IntKind.wrap_i64, hnx']; omega
        rw [← hnx'] at c2 hnx
        subst hsv
        clear har hwi hgo H1 hsr hb3 h3 hb3' hd3 hx hB hnp hnx' hsc hlw
        go_wp2_with fail
        go_region_with (go_at_call 56; rw [E9.out]; refine (HWR.out _ (by first | exact Below.refl _ _ | exact (Below.refl _ _).drew)).mono ?_; rintro e w4 ⟨rfl, hd4, hc4⟩)
        all_goals
          have HN2 : Hid (Held (y.es L jb ++ (dmE L y.p s (tornX x (y.recs.length + 1) y.next bs x.whole) :: R)) w4 ∧ Below L w w4) := ⟨held_disk H3.out.1 hd4 hc4, H3.out.2.1.trans (hc4.below H3.out.2.2 (fun k hk => ((h1d H3.out.1).lt hk).1))⟩
          clear hd4 hc4 HWR H3
          go_wp2_with fail
          go_ret
          first
            | exact Or.inr ⟨HAR.out.1, HAR.out.2, rfl, HN2.out.1, HN2.out.2⟩
            | exact Or.inr ⟨HAR.out.1, HAR.out.2, rfl, HN2.out.1.drewN 1, below_dr HN2.out.2 1⟩
    · have hin : ¬ ((i : Int) < (k : Int)) := by omega
      have hik : i = k := by omega
      have hik' := hik
      rw [hik] at hH
      have hR : Held R wr := Held.drop (Held.tailR hH)
      have HCL : Hid _ := clone_any wr (HBY.out wr hb hR) hbl.2.2
      have HH : Hid (Held (y.es L jb ++ (dmE L y.p s (wroteX x (y.recs.length + 1) y.next bs k) :: R)) wr ∧ Below L w wr ∧ L ≤ wr.heap.size) := ⟨hH, hb, jlow hH⟩
      clear hH hb hR hik hBd hbl
      go_wp2_with fail
      refine Calls.mono HCL.out ?_
      rintro e w1 ⟨cv, rfl, hcr, hb1⟩
      clear HCL
      obtain ⟨co, cc, hcv, hcc⟩ := own_slice hcr
      subst hcv
      have h2 : Held (y.es L jb ++ (datE L (.slice co n cc, bs) :: dmE L y.p s (wroteX x (y.recs.length + 1) y.next bs k) :: R)) w1 := by
        have h3 : Held (datE L (.slice co n cc, bs) :: (y.es L jb ++ (dmE L y.p s (wroteX x (y.recs.length + 1) y.next bs k) :: R))) w1 := Held.fresh HH.out.1 hb1 (show w1.ownsRow L 5 1 (.slice co n cc) bs.length (bs.map B) by rw [HBL.out.1]; exact ownsRow_mono hcr HH.out.2.2) (fun k hk => (ownsRow_lt hcr hk).1)
        exact h3.perm List.perm_middle.symm
      have hB := HB.out
      have HA : Hid _ := add_any w1 h2 HBL.out.1 HBL.out.2.2 hB.2.2.1 (by omega)
      have H2 : Hid (Held (y.es L jb ++ (datE L (.slice co n cc, bs) :: dmE L y.p s (wroteX x (y.recs.length + 1) y.next bs k) :: R)) w1 ∧ Below L w w1) := ⟨h2, HH.out.2.1.trans (hb1.mono HH.out.2.2)⟩
      clear hcr hb1 h2 hB HH hcc
      go_wp2_with fail
      refine Calls.mono HA.out ?_
      rintro e w2 ⟨rfl, rv', h3, hc3⟩
      have HF : Hid (∃ rv' v', Held ((y.added rv' v' bs).es L jb ++ (dmE L y.p s (wroteX x (y.recs.length + 1) y.next bs k) :: R)) w2 ∧ Below L w w2) := ⟨rv', _, h3, H2.out.2.trans (Held.below2 H2.out.1 (jlow H2.out.1) hc3 (fun q hq => by
        rcases hq with e | e
        · exact ⟨boxE L jb y.cs 79, by simp [JV.es], e⟩
        · exact ⟨tailE L 38 y.rv y.recs.length (y.recs.map Prod.fst), by simp [JV.es], e⟩))⟩
      clear HA h3 hc3 H2
      go_wp2_with fail
      go_ret
      obtain ⟨rv', v', h4, h5⟩ := HF.out
      have hiw := HIW.out
      refine Or.inl ⟨by rw [← hik']; exact hiw, rfl, rv', v', h4, h5⟩
end Go.Proofs.Ytcnokgphioigoaa
namespace Go.Proofs.Ytcnokgphioigoaa
open Go.RowKit Go.PlainAid
set_option linter.unusedVariables false
set_option linter.unusedSimpArgs false
def deadA : Array Value := #[.pointer none, .slice none 0 0, .int .i64 0, .int .i64 0, .bool true]
theorem arr5 {C : Array Value} (h : C.size = 5) : ∃ c0 c1 c2 c3 c4, C = #[c0, c1, c2, c3, c4] := by
  obtain ⟨l⟩ := C
  match l, h with
  | [a, b, c, d, e], _ => exact ⟨a, b, c, d, e, rfl⟩
set_option maxRecDepth 100000 in
theorem die_any {jb : Nat} {C : Array Value} (w : World) (h : Blk w jb C 79) (hC : C.size = 5) :
    Calls Try.prog 38 #[.pointer (some ⟨jb, 0, none⟩)] w fun e w' => e = .returned (.tuple #[]) ∧ Blk w' jb deadA 79 ∧ Chg (fun k => k = jb) w w' := by
  obtain ⟨c0, c1, c2, c3, c4, rfl⟩ := arr5 hC
  have k0 := h.cell 0
  have k1 := h.cell 1
  have k2 := h.cell 2
  have k3 := h.cell 3
  have k4 := h.cell 4
  have f0 := h.frozen 0
  have f1 := h.frozen 1
  have f2 := h.frozen 2
  have f3 := h.frozen 3
  have f4 := h.frozen 4
  have HF : Hid (Blk (((((w.setCell ⟨jb, 0, none⟩ (.pointer none)).setCell ⟨jb, 1, none⟩ (.slice none 0 0)).setCell ⟨jb, 2, none⟩ (.int .i64 0)).setCell ⟨jb, 3, none⟩ (.int .i64 0)).setCell ⟨jb, 4, none⟩ (.bool true)) jb deadA 79 ∧ Chg (fun k => k = jb) w (((((w.setCell ⟨jb, 0, none⟩ (.pointer none)).setCell ⟨jb, 1, none⟩ (.slice none 0 0)).setCell ⟨jb, 2, none⟩ (.int .i64 0)).setCell ⟨jb, 3, none⟩ (.int .i64 0)).setCell ⟨jb, 4, none⟩ (.bool true))) :=
    ⟨((((h.set 0 _).set 1 _).set 2 _).set 3 _).set 4 _, ((((setCell_chg _ _ _ _).trans (setCell_chg _ _ _ _) (fun _ _ e => e)).trans (setCell_chg _ _ _ _) (fun _ _ e => e)).trans (setCell_chg _ _ _ _) (fun _ _ e => e)).trans (setCell_chg _ _ _ _) (fun _ _ e => e)⟩
  clear h
  simp only [List.getElem?_toArray, List.getElem?_cons_zero, List.getElem?_cons_succ] at k0 k1 k2 k3 k4
  go_enter Try.func38, Try.ntmps38
  go_wp2_with fail
  refine bodyPost_end (results_none rfl _ _ _) rfl ?_
  exact ⟨rfl, HF.out.1, HF.out.2⟩
set_option maxRecDepth 100000 in
/-- The deferred function where the disk has gone down. -/
theorem late_die {jb a b : Nat} {C : Array Value} (u : FrameMode) (w : World) (h : w.cell? ⟨a, 0, none⟩ = some (.int .i64 200)) (hb : w.cell? ⟨b, 0, none⟩ = some (.pointer (some ⟨jb, 0, none⟩))) (hB : Blk w jb C 79) (hC : C.size = 5) :
    CallsD Try.prog 37 #[.pointer (some ⟨a, 0, none⟩), .pointer (some ⟨b, 0, none⟩)] u w fun e u' w' => u' = u ∧ (e = .returned (.tuple #[]) ∧ Blk w' jb deadA 79 ∧ Chg (fun k => k = jb) w w') := by
  have HD : Hid _ := die_any w hB hC
  clear hB
  go_enter_d Try.func37, Try.ntmps37
  go_wp2_with fail
  refine Calls.mono HD.out ?_
  rintro e w1 ⟨rfl, h1, h2⟩
  have HF : Hid (Blk w1 jb deadA 79 ∧ Chg (fun k => k = jb) w w1) := ⟨h1, h2⟩
  clear HD h1 h2
  go_wp2_with fail
  first
    | (go_end0; exact ⟨rfl, HF.out.1, HF.out.2⟩)
    | (refine bodyPost_end (results_none rfl _ _ _) rfl ?_; exact ⟨rfl, HF.out.1, HF.out.2⟩)
end Go.Proofs.Ytcnokgphioigoaa
namespace Go.Proofs.Ytcnokgphioigoaa
open Go.RowKit Go.PlainAid
set_option linter.unusedVariables false
set_option linter.unusedSimpArgs false
/-- How a record is appended: whole, or the power fails and the journal is dead. -/
def ApO (L jb s : Nat) (y : JV) (x : DV) (R : List (Ent L)) (bs : List UInt8) (k : Nat) (w : World) (e : Ending) (w' : World) : Prop :=
  ((x.armed = true → k ≤ x.whole) ∧ e = .returned (.int .i64 0) ∧ ∃ rv' v', Held ((y.added rv' v' bs).es L jb ++ (dmE L y.p s (wroteX x (y.recs.length + 1) y.next bs k) :: R)) w' ∧ Below L w w') ∨
  (x.armed = true ∧ x.whole < k ∧ e = .returned (.int .i64 200) ∧ Held (boxE L jb deadA 79 :: dmE L y.p s (tornX x (y.recs.length + 1) y.next bs x.whole) :: R) w' ∧ Below L w w')
set_option maxRecDepth 100000 in
set_option maxHeartbeats 3200000 in
theorem append_gen {L jb s : Nat} {y : JV} {x : DV} {R : List (Ent L)} {vo : Option Addr} {n c : Nat} {bs : List UInt8} (w : World) (h : Held (y.es L jb ++ (dmE L y.p s x :: R)) w) (hb : ∀ W, Below L w W → Held R W → By W (.slice vo n c) bs) (hc : n ≤ c) (hn : n ≤ 8192) (ho : x.off = false) (ht : x.torn ≤ 512) (hwh : x.whole ≤ 9223372036854775807) (hwr : x.writes ≤ 900000000000000000) (hr : y.recs.length ≤ 1000) (hx : y.next + kS n ≤ y.fin) (hf : y.fin = x.n) (hxn : x.n ≤ 65536) :
    Calls Try.prog 16 #[.pointer (some ⟨jb, 0, none⟩), .slice vo n c] w fun e w' => ApO L jb s y x R bs (kS n) w e w' := by
  have hmf : ∀ (fn : Fn) (first cap : Array Value) (w : World), (Instr.makeFunc fn first cap).run Try.prog w = .ok (.func fn first cap) w := fun _ _ _ _ => rfl
  obtain ⟨H, hH⟩ : ∃ H, H = w.heap.size := ⟨_, rfl⟩
  have hL := jlow h
  obtain ⟨w1, hw1⟩ : ∃ w1, w1 = (w.alloc (.cells #[.pointer (some ⟨jb, 0, none⟩)] 31)).alloc (.cells #[.int .i64 0] 25) := ⟨_, rfl⟩
  have hb1 : Below H w w1 := by rw [hw1, hH]; exact ((Below.refl _ _).alloc (Nat.le_refl _) _).alloc (by rw [World.size_alloc]; omega) _
  have hB0 : Blk w1 H #[.pointer (some ⟨jb, 0, none⟩)] 31 := by rw [hw1, hH]; exact heap_alloc2_old w _ _
  have hB1 : Blk w1 (H + 1) #[.int .i64 0] 25 := by rw [hw1, hH]; exact heap_alloc2_new w _ _
  have h1 : Held (y.es L jb ++ (dmE L y.p s x :: boxE L H #[.pointer (some ⟨jb, 0, none⟩)] 31 :: boxE L (H + 1) #[.int .i64 0] 25 :: R)) w1 := by
    have hw : Below w.heap.size w w1 := by rw [← hH]; exact hb1
    have h2 : Held (boxE L H #[.pointer (some ⟨jb, 0, none⟩)] 31 :: (y.es L jb ++ (dmE L y.p s x :: R))) w1 := Held.fresh h hw ⟨hB0, by rw [hH]; exact hL⟩ (fun k hk => by have : k = H := hk; omega)
    have h3 : Held (boxE L (H + 1) #[.int .i64 0] 25 :: boxE L H #[.pointer (some ⟨jb, 0, none⟩)] 31 :: (y.es L jb ++ (dmE L y.p s x :: R))) w1 := h2.add ⟨hB1, by omega⟩ (fun k hk hh => by
      have hk' : k = H + 1 := hk
      rcases has_cons.1 hh with e | e
      · have : k = H := e
        omega
      · have := (h.typ e).2
        omega)
    have hp : (boxE L (H + 1) #[.int .i64 0] 25 :: boxE L H #[.pointer (some ⟨jb, 0, none⟩)] 31 :: (y.es L jb ++ (dmE L y.p s x :: R))).Perm (y.es L jb ++ (dmE L y.p s x :: boxE L H #[.pointer (some ⟨jb, 0, none⟩)] 31 :: boxE L (H + 1) #[.int .i64 0] 25 :: R)) := by
      refine (List.Perm.swap ..).trans ?_
      have e1 : ([boxE L H #[.pointer (some ⟨jb, 0, none⟩)] 31, boxE L (H + 1) #[.int .i64 0] 25] ++ ((y.es L jb ++ [dmE L y.p s x]) ++ R)).Perm ((y.es L jb ++ [dmE L y.p s x]) ++ ([boxE L H #[.pointer (some ⟨jb, 0, none⟩)] 31, boxE L (H + 1) #[.int .i64 0] 25] ++ R)) := by
        rw [← List.append_assoc, ← List.append_assoc (y.es L jb ++ [dmE L y.p s x])]
        exact List.Perm.append_right _ List.perm_append_comm
      simpa [List.append_assoc] using e1
    exact h3.perm hp
  have hkn := kS_le n hn
  have HW : Hid (∀ X : World, (∃ q, X = w1.drewN q) → Calls Try.prog 40 #[.pointer (some ⟨jb, 0, none⟩), .slice vo n c] X fun e w' => WrO L jb s y x (boxE L H #[.pointer (some ⟨jb, 0, none⟩)] 31 :: boxE L (H + 1) #[.int .i64 0] 25 :: R) bs (kS n) w1 e w') := fun X hX => by
    obtain ⟨q, rfl⟩ := hX
    refine (jwrite_gen (R := boxE L H #[.pointer (some ⟨jb, 0, none⟩)] 31 :: boxE L (H + 1) #[.int .i64 0] 25 :: R) (w1.drewN q) (h1.drewN q) (fun W h5 h6 => hb W (((hb1.mono (by omega)).trans (below_dr (Below.refl _ _) q)).trans h5) h6.drop.drop) hc hn ho ht hwh hwr hr (by rw [← hf]; exact hx) hxn).mono ?_
    rintro e w' (⟨e0, e1, rv', v', e2, e3⟩ | ⟨e0, e1, e2, e3, e4⟩)
    · exact Or.inl ⟨e0, e1, rv', v', e2, (below_dr (Below.refl _ _) q).trans e3⟩
    · exact Or.inr ⟨e0, e1, e2, e3, (below_dr (Below.refl _ _) q).trans e4⟩
  have HON : Hid _ := isOn_any w1 (h1d h1)
  rw [ho] at HON
  have HRM : Hid (∀ q, Calls Try.prog 18 #[.pointer (some ⟨jb, 0, none⟩)] (w1.drewN q) fun e w' => e = .returned (.int .i64 ((y.fin - y.next : Nat) : Int)) ∧ ∃ m, w' = (w1.drewN q).drewN m) := fun q => room_any (w1.drewN q) (h1.drewN q) (by have := kS_pos n; omega) (by omega)
  have HK : Hid (∀ q, Calls Try.prog 39 #[.int .i64 (n : Int)] (w1.drewN q) fun e w' => e = .returned (.int .i64 (kS n : Int)) ∧ w' = (w1.drewN q)) := fun q => kS_any n _ (by omega)
  have c4 : w1.cell? ⟨jb, 4, none⟩ = some (.bool false) := (jbox h1).cell 4
  have c0 : w1.cell? ⟨jb, 0, none⟩ = some (.pointer (some ⟨y.p, 0, none⟩)) := (jbox h1).cell 0
  have b0 : w1.cell? ⟨H, 0, none⟩ = some (.pointer (some ⟨jb, 0, none⟩)) := hB0.cell 0
  have hroom : (kS n : Int) ≤ ((y.fin - y.next : Nat) : Int) := by omega
  obtain ⟨rm, hrm⟩ : ∃ rm : Int, rm = ((y.fin - y.next : Nat) : Int) := ⟨_, rfl⟩
  obtain ⟨k, hk⟩ : ∃ k : Int, k = (kS n : Int) := ⟨_, rfl⟩
  have hroom' : ¬ rm < k := by rw [hrm, hk]; omega
  rw [← hrm] at HRM
  rw [← hk] at HK
  have HBB : Hid (Below L w w1 ∧ H ≤ w1.heap.size) := ⟨hb1.mono (by omega), Nat.le_trans (by omega) hb1.size⟩
  have HHH : Hid (H = w.heap.size) := hH
  have hn' : ¬ (8192 : Int) < (n : Int) := by omega
  clear h hb h1 hB0 hB1 hb1 hL hroom hrm hk ho ht hwh hwr hr hx hf hxn
  go_enter_defers Try.func16, Try.ntmps16
  go_upto_region 2 with fail
  rw [← hw1, ← hH]
  clear hw1 hH
  go_wp2_with fail
  refine Calls.mono HON.out ?_
  rintro e wo ⟨rfl, hwo⟩
  replace hwo := hwo.symm
  subst hwo
  clear HON c4 c0
  go_wp2_with fail
  go_quiet (first | (go_at_call 39; refine Calls.quiet_of_same (HK.out _)) | (go_at_call 18; refine Calls.quiet_of (HRM.out _)))
  have HW1 : Hid _ := HW.out (w1.drewN nq) ⟨nq, rfl⟩
  have b1 : (w1.drewN nq).cell? ⟨H, 0, none⟩ = some (.pointer (some ⟨jb, 0, none⟩)) := b0
  generalize w1.drewN nq = X at HW1 b1 ⊢
  clear HW HRM HK b0
  go_wp2_with fail
  refine Calls.mono HW1.out ?_
  rintro e w5 (⟨hwo, rfl, rv', v', h5, hb5⟩ | ⟨har, hwl, rfl, h5, hb5⟩)
  · have HWO : Hid (x.armed = true → kS n ≤ x.whole) := hwo
    clear hwo
    clear HW1 b1
    have hB5 : Blk w5 (H + 1) #[.int .i64 0] 25 := (h5.all (boxE L (H + 1) #[.int .i64 0] 25) (by simp)).1
    have z1 : w5.cell? ⟨H + 1, 0, none⟩ = some (.int .i64 0) := hB5.cell 0
    have f1 : w5.frozen? ⟨H + 1, 0, none⟩ = false := hB5.frozen 0
    have HF : Hid (Held ((y.added rv' v' bs).es L jb ++ (dmE L y.p s (wroteX x (y.recs.length + 1) y.next bs (kS n)) :: R)) (w5.setCell ⟨H + 1, 0, none⟩ (.int .i64 0)) ∧ Below L w (w5.setCell ⟨H + 1, 0, none⟩ (.int .i64 0)) ∧ (w5.setCell ⟨H + 1, 0, none⟩ (.int .i64 0)).cell? ⟨H + 1, 0, none⟩ = some (.int .i64 0)) := by
      have hs : (w5.setCell ⟨H + 1, 0, none⟩ (.int .i64 0)).cell? ⟨H + 1, 0, none⟩ = some (.int .i64 0) := by rw [(hB5.set 0 _).cell 0]; rfl
      have hd : Held ((y.added rv' v' bs).es L jb ++ (dmE L y.p s (wroteX x (y.recs.length + 1) y.next bs (kS n)) :: R)) w5 := Held.subl h5 (by
        refine List.Sublist.append (List.Sublist.refl _) (List.Sublist.cons_cons _ (List.Sublist.cons _ (List.Sublist.cons _ (List.Sublist.refl _)))))
      have hbx : Held (boxE L (H + 1) #[.int .i64 0] 25 :: ((y.added rv' v' bs).es L jb ++ (dmE L y.p s (wroteX x (y.recs.length + 1) y.next bs (kS n)) :: boxE L H #[.pointer (some ⟨jb, 0, none⟩)] 31 :: R))) w5 := h5.perm (by
        have e1 : ((y.added rv' v' bs).es L jb ++ ([dmE L y.p s (wroteX x (y.recs.length + 1) y.next bs (kS n)), boxE L H #[.pointer (some ⟨jb, 0, none⟩)] 31] ++ (boxE L (H + 1) #[.int .i64 0] 25 :: R))).Perm (boxE L (H + 1) #[.int .i64 0] 25 :: ((y.added rv' v' bs).es L jb ++ ([dmE L y.p s (wroteX x (y.recs.length + 1) y.next bs (kS n)), boxE L H #[.pointer (some ⟨jb, 0, none⟩)] 31] ++ R))) := by
          rw [← List.append_assoc, ← List.append_assoc]
          exact List.perm_middle
        simpa using e1)
      refine ⟨hd.chg (setCell_chg _ _ _ _) (fun k hk e => ?_), (HBB.out.1.trans hb5).trans ((setCell_chg _ _ _ _).below (jlow h5) (fun k e => ?_)), hs⟩
      · refine hbx.apart (k := k) e ?_
        obtain ⟨en, hen, hv⟩ := hk
        refine ⟨en, ?_, hv⟩
        rcases List.mem_append.1 hen with h9 | h9
        · exact List.mem_append_left _ h9
        · refine List.mem_append_right _ ?_
          rcases List.mem_cons.1 h9 with h10 | h10
          · rw [h10]; exact List.mem_cons_self ..
          · exact List.mem_cons_of_mem _ (List.mem_cons_of_mem _ h10)
      · have := (h5.all (boxE L (H + 1) #[.int .i64 0] 25) (by simp)).2
        omega
    clear hB5 h5 hb5
    go_wp2_with fail
    have z2 := HF.out.2.2
    clear z1 f1
    generalize w5.setCell ⟨H + 1, 0, none⟩ (.int .i64 0) = w6 at HF z2 ⊢
    refine leaves_cons (f := 37) (args := #[.pointer (some ⟨H + 1, 0, none⟩), .pointer (some ⟨H, 0, none⟩)]) (by simp) (by simp [go_sem]) ?_
    refine (late_any (H + 1) H 0 (by decide) .returning _ z2).mono ?_
    rintro e u' w' ⟨rfl, rfl, rfl⟩
    refine ⟨.int .i64 0, ?_, Or.inl ⟨HWO.out, rfl, rv', v', HF.out.1, HF.out.2.1⟩⟩
    simp [results, Try.results16, go_sem, z2]
  · have HWO : Hid (x.armed = true ∧ x.whole < kS n) := ⟨har, hwl⟩
    clear har hwl
    clear HW1 b1
    have HNE : Hid (jb ≠ H + 1) := Blk.ne_t (jbox h5) ((h5.all (boxE L (H + 1) #[.int .i64 0] 25) (by simp)).1) (by decide)
    have hB5 : Blk w5 (H + 1) #[.int .i64 0] 25 := (h5.all (boxE L (H + 1) #[.int .i64 0] 25) (by simp)).1
    have z1 : w5.cell? ⟨H + 1, 0, none⟩ = some (.int .i64 0) := hB5.cell 0
    have f1 : w5.frozen? ⟨H + 1, 0, none⟩ = false := hB5.frozen 0
    have HF : Hid (Held (y.es L jb ++ (dmE L y.p s (tornX x (y.recs.length + 1) y.next bs x.whole) :: R)) (w5.setCell ⟨H + 1, 0, none⟩ (.int .i64 200)) ∧ Below L w (w5.setCell ⟨H + 1, 0, none⟩ (.int .i64 200)) ∧ (w5.setCell ⟨H + 1, 0, none⟩ (.int .i64 200)).cell? ⟨H + 1, 0, none⟩ = some (.int .i64 200)) := by
      have hs : (w5.setCell ⟨H + 1, 0, none⟩ (.int .i64 200)).cell? ⟨H + 1, 0, none⟩ = some (.int .i64 200) := by rw [(hB5.set 0 _).cell 0]; rfl
      have hd : Held (y.es L jb ++ (dmE L y.p s (tornX x (y.recs.length + 1) y.next bs x.whole) :: R)) w5 := Held.subl h5 (by
        refine List.Sublist.append (List.Sublist.refl _) (List.Sublist.cons_cons _ (List.Sublist.cons _ (List.Sublist.cons _ (List.Sublist.refl _)))))
      have hbx : Held (boxE L (H + 1) #[.int .i64 0] 25 :: (y.es L jb ++ (dmE L y.p s (tornX x (y.recs.length + 1) y.next bs x.whole) :: boxE L H #[.pointer (some ⟨jb, 0, none⟩)] 31 :: R))) w5 := h5.perm (by
        have e1 : (y.es L jb ++ ([dmE L y.p s (tornX x (y.recs.length + 1) y.next bs x.whole), boxE L H #[.pointer (some ⟨jb, 0, none⟩)] 31] ++ (boxE L (H + 1) #[.int .i64 0] 25 :: R))).Perm (boxE L (H + 1) #[.int .i64 0] 25 :: (y.es L jb ++ ([dmE L y.p s (tornX x (y.recs.length + 1) y.next bs x.whole), boxE L H #[.pointer (some ⟨jb, 0, none⟩)] 31] ++ R))) := by
          rw [← List.append_assoc, ← List.append_assoc]
          exact List.perm_middle
        simpa using e1)
      refine ⟨hd.chg (setCell_chg _ _ _ _) (fun k hk e => ?_), (HBB.out.1.trans hb5).trans ((setCell_chg _ _ _ _).below (jlow h5) (fun k e => ?_)), hs⟩
      · refine hbx.apart (k := k) e ?_
        obtain ⟨en, hen, hv⟩ := hk
        refine ⟨en, ?_, hv⟩
        rcases List.mem_append.1 hen with h9 | h9
        · exact List.mem_append_left _ h9
        · refine List.mem_append_right _ ?_
          rcases List.mem_cons.1 h9 with h10 | h10
          · rw [h10]; exact List.mem_cons_self ..
          · exact List.mem_cons_of_mem _ (List.mem_cons_of_mem _ h10)
      · have := (h5.all (boxE L (H + 1) #[.int .i64 0] 25) (by simp)).2
        omega
    have HZ3 : Hid ((w5.setCell ⟨H + 1, 0, none⟩ (.int .i64 200)).cell? ⟨H, 0, none⟩ = some (.pointer (some ⟨jb, 0, none⟩))) := by
      have hB6 : Blk w5 H #[.pointer (some ⟨jb, 0, none⟩)] 31 := (h5.all (boxE L H #[.pointer (some ⟨jb, 0, none⟩)] 31) (by simp)).1
      have hb6 : Blk (w5.setCell ⟨H + 1, 0, none⟩ (.int .i64 200)) H #[.pointer (some ⟨jb, 0, none⟩)] 31 := (setCell_chg w5 (H + 1) 0 (.int .i64 200)).blk hB6 (by omega)
      exact hb6.cell 0
    clear hB5 h5 hb5
    go_wp2_with fail
    have z2 := HF.out.2.2
    have z3 : (w5.setCell ⟨H + 1, 0, none⟩ (.int .i64 200)).cell? ⟨H, 0, none⟩ = some (.pointer (some ⟨jb, 0, none⟩)) := HZ3.out
    clear z1 f1
    generalize w5.setCell ⟨H + 1, 0, none⟩ (.int .i64 200) = w6 at HF z2 z3 ⊢
    refine leaves_cons (f := 37) (args := #[.pointer (some ⟨H + 1, 0, none⟩), .pointer (some ⟨H, 0, none⟩)]) (by simp) (by simp [go_sem]) ?_
    have hbj : Blk w6 jb y.cs 79 := jbox HF.out.1
    refine (late_die .returning _ z2 z3 hbj rfl).mono ?_
    rintro e u' w' ⟨rfl, rfl, hd1, hd2⟩
    have HG : Held (boxE L jb deadA 79 :: dmE L y.p s (tornX x (y.recs.length + 1) y.next bs x.whole) :: R) w' ∧ Below L w w' := by
      have h7 : Held (boxE L jb y.cs 79 :: dmE L y.p s (tornX x (y.recs.length + 1) y.next bs x.whole) :: R) w6 := Held.subl HF.out.1 (by
        show List.Sublist _ (boxE L jb y.cs 79 :: (tailE L 38 y.rv y.recs.length (y.recs.map Prod.fst) :: y.recs.map (datE L)) ++ _)
        exact List.Sublist.cons_cons _ (List.sublist_append_right _ _))
      have hLj : L ≤ jb := (h7.all _ (List.mem_cons_self ..)).2
      refine ⟨h7.swap (e' := boxE L jb deadA 79) hd2 ⟨hd1, hLj⟩ (fun k hk => Or.inl hk), HF.out.2.1.trans (hd2.below (jlow HF.out.1) (fun k e => by rw [e]; exact hLj))⟩
    have zz : w'.cell? ⟨H + 1, 0, none⟩ = some (.int .i64 200) := by
      have hne : (H + 1) ≠ jb := fun e => HNE.out e.symm
      rw [← z2]
      exact World.cell?_of_block (w := w6) (hd2.block _ (World.block_lt_of_cell? w6 _ z2) hne)
    refine ⟨.int .i64 200, ?_, Or.inr ⟨HWO.out.1, HWO.out.2, rfl, HG.1, HG.2⟩⟩
    simp [results, Try.results16, go_sem, zz]
end Go.Proofs.Ytcnokgphioigoaa
namespace Go.Proofs.Ytcnokgphioigoaa
open Go.RowKit Go.PlainAid
set_option linter.unusedVariables false
set_option linter.unusedSimpArgs false
set_option maxRecDepth 100000 in
set_option maxHeartbeats 3200000 in
theorem append_room {L jb s : Nat} {y : JV} {x : DV} {R : List (Ent L)} {vo : Option Addr} {n c : Nat} {bs : List UInt8} (w : World) (h : Held (y.es L jb ++ (dmE L y.p s x :: R)) w) (hb : ∀ W, Below L w W → Held R W → By W (.slice vo n c) bs) (hc : n ≤ c) (hn : n ≤ 8192) (ho : x.off = false) (hr : y.recs.length ≤ 1000) (hx : y.fin < y.next + kS n) (hx2 : y.next ≤ y.fin) (hf : y.fin = x.n) (hxn : x.n ≤ 65536) :
    Calls Try.prog 16 #[.pointer (some ⟨jb, 0, none⟩), .slice vo n c] w fun e w' => e = .returned (.int .i64 211) ∧ Held (y.es L jb ++ (dmE L y.p s x :: R)) w' ∧ Below L w w' := by
  have hmf : ∀ (fn : Fn) (first cap : Array Value) (w : World), (Instr.makeFunc fn first cap).run Try.prog w = .ok (.func fn first cap) w := fun _ _ _ _ => rfl
  obtain ⟨H, hH⟩ : ∃ H, H = w.heap.size := ⟨_, rfl⟩
  have hL := jlow h
  obtain ⟨w1, hw1⟩ : ∃ w1, w1 = (w.alloc (.cells #[.pointer (some ⟨jb, 0, none⟩)] 31)).alloc (.cells #[.int .i64 0] 25) := ⟨_, rfl⟩
  have hb1 : Below H w w1 := by rw [hw1, hH]; exact ((Below.refl _ _).alloc (Nat.le_refl _) _).alloc (by rw [World.size_alloc]; omega) _
  have hB0 : Blk w1 H #[.pointer (some ⟨jb, 0, none⟩)] 31 := by rw [hw1, hH]; exact heap_alloc2_old w _ _
  have hB1 : Blk w1 (H + 1) #[.int .i64 0] 25 := by rw [hw1, hH]; exact heap_alloc2_new w _ _
  have h1 : Held (y.es L jb ++ (dmE L y.p s x :: boxE L H #[.pointer (some ⟨jb, 0, none⟩)] 31 :: boxE L (H + 1) #[.int .i64 0] 25 :: R)) w1 := by
    have hw : Below w.heap.size w w1 := by rw [← hH]; exact hb1
    have h2 : Held (boxE L H #[.pointer (some ⟨jb, 0, none⟩)] 31 :: (y.es L jb ++ (dmE L y.p s x :: R))) w1 := Held.fresh h hw ⟨hB0, by rw [hH]; exact hL⟩ (fun k hk => by have : k = H := hk; omega)
    have h3 : Held (boxE L (H + 1) #[.int .i64 0] 25 :: boxE L H #[.pointer (some ⟨jb, 0, none⟩)] 31 :: (y.es L jb ++ (dmE L y.p s x :: R))) w1 := h2.add ⟨hB1, by omega⟩ (fun k hk hh => by
      have hk' : k = H + 1 := hk
      rcases has_cons.1 hh with e | e
      · have : k = H := e
        omega
      · have := (h.typ e).2
        omega)
    have hp : (boxE L (H + 1) #[.int .i64 0] 25 :: boxE L H #[.pointer (some ⟨jb, 0, none⟩)] 31 :: (y.es L jb ++ (dmE L y.p s x :: R))).Perm (y.es L jb ++ (dmE L y.p s x :: boxE L H #[.pointer (some ⟨jb, 0, none⟩)] 31 :: boxE L (H + 1) #[.int .i64 0] 25 :: R)) := by
      refine (List.Perm.swap ..).trans ?_
      have e1 : ([boxE L H #[.pointer (some ⟨jb, 0, none⟩)] 31, boxE L (H + 1) #[.int .i64 0] 25] ++ ((y.es L jb ++ [dmE L y.p s x]) ++ R)).Perm ((y.es L jb ++ [dmE L y.p s x]) ++ ([boxE L H #[.pointer (some ⟨jb, 0, none⟩)] 31, boxE L (H + 1) #[.int .i64 0] 25] ++ R)) := by
        rw [← List.append_assoc, ← List.append_assoc (y.es L jb ++ [dmE L y.p s x])]
        exact List.Perm.append_right _ List.perm_append_comm
      simpa [List.append_assoc] using e1
    exact h3.perm hp
  have hkn := kS_le n hn
  have H1 : Hid (Held (y.es L jb ++ (dmE L y.p s x :: boxE L H #[.pointer (some ⟨jb, 0, none⟩)] 31 :: boxE L (H + 1) #[.int .i64 0] 25 :: R)) w1) := h1
  have HON : Hid _ := isOn_any w1 (h1d h1)
  rw [ho] at HON
  have HRM : Hid (∀ q, Calls Try.prog 18 #[.pointer (some ⟨jb, 0, none⟩)] (w1.drewN q) fun e w' => e = .returned (.int .i64 ((y.fin - y.next : Nat) : Int)) ∧ ∃ m, w' = (w1.drewN q).drewN m) := fun q => room_any (w1.drewN q) (h1.drewN q) hx2 (by omega)
  have HK : Hid (∀ q, Calls Try.prog 39 #[.int .i64 (n : Int)] (w1.drewN q) fun e w' => e = .returned (.int .i64 (kS n : Int)) ∧ w' = (w1.drewN q)) := fun q => kS_any n _ (by omega)
  have c4 : w1.cell? ⟨jb, 4, none⟩ = some (.bool false) := (jbox h1).cell 4
  have c0 : w1.cell? ⟨jb, 0, none⟩ = some (.pointer (some ⟨y.p, 0, none⟩)) := (jbox h1).cell 0
  have b0 : w1.cell? ⟨H, 0, none⟩ = some (.pointer (some ⟨jb, 0, none⟩)) := hB0.cell 0
  have hroom : ((y.fin - y.next : Nat) : Int) < (kS n : Int) := by omega
  obtain ⟨rm, hrm⟩ : ∃ rm : Int, rm = ((y.fin - y.next : Nat) : Int) := ⟨_, rfl⟩
  obtain ⟨k, hk⟩ : ∃ k : Int, k = (kS n : Int) := ⟨_, rfl⟩
  have hroom' : rm < k := by rw [hrm, hk]; omega
  rw [← hrm] at HRM
  rw [← hk] at HK
  have HBB : Hid (Below L w w1 ∧ H ≤ w1.heap.size) := ⟨hb1.mono (by omega), Nat.le_trans (by omega) hb1.size⟩
  have HHH : Hid (H = w.heap.size) := hH
  have hn' : ¬ (8192 : Int) < (n : Int) := by omega
  clear h hb h1 hB0 hB1 hb1 hL hroom hrm hk ho hr hx hx2 hf hxn
  go_enter_defers Try.func16, Try.ntmps16
  go_upto_region 2 with fail
  rw [← hw1, ← hH]
  clear hw1 hH
  go_wp2_with fail
  refine Calls.mono HON.out ?_
  rintro e wo ⟨rfl, hwo⟩
  replace hwo := hwo.symm
  subst hwo
  clear HON c4 c0
  go_wp2_with fail
  go_quiet (first | (go_at_call 39; refine Calls.quiet_of_same (HK.out _)) | (go_at_call 18; refine Calls.quiet_of (HRM.out _)))
  have h5 : Held (y.es L jb ++ (dmE L y.p s x :: boxE L H #[.pointer (some ⟨jb, 0, none⟩)] 31 :: boxE L (H + 1) #[.int .i64 0] 25 :: R)) (w1.drewN nq) := H1.out.drewN nq
  have hb5 : Below L w1 (w1.drewN nq) := below_dr (Below.refl _ _) nq
  generalize w1.drewN nq = w5 at h5 hb5 ⊢
  clear HRM HK b0 H1
  have hB5 : Blk w5 (H + 1) #[.int .i64 0] 25 := (h5.all (boxE L (H + 1) #[.int .i64 0] 25) (by simp)).1
  have z1 : w5.cell? ⟨H + 1, 0, none⟩ = some (.int .i64 0) := hB5.cell 0
  have f1 : w5.frozen? ⟨H + 1, 0, none⟩ = false := hB5.frozen 0
  have HF : Hid (Held (y.es L jb ++ (dmE L y.p s x :: R)) (w5.setCell ⟨H + 1, 0, none⟩ (.int .i64 211)) ∧ Below L w (w5.setCell ⟨H + 1, 0, none⟩ (.int .i64 211)) ∧ (w5.setCell ⟨H + 1, 0, none⟩ (.int .i64 211)).cell? ⟨H + 1, 0, none⟩ = some (.int .i64 211)) := by
    have hs : (w5.setCell ⟨H + 1, 0, none⟩ (.int .i64 211)).cell? ⟨H + 1, 0, none⟩ = some (.int .i64 211) := by rw [(hB5.set 0 _).cell 0]; rfl
    have hd : Held (y.es L jb ++ (dmE L y.p s x :: R)) w5 := Held.subl h5 (by
      refine List.Sublist.append (List.Sublist.refl _) (List.Sublist.cons_cons _ (List.Sublist.cons _ (List.Sublist.cons _ (List.Sublist.refl _)))))
    have hbx : Held (boxE L (H + 1) #[.int .i64 0] 25 :: (y.es L jb ++ (dmE L y.p s x :: boxE L H #[.pointer (some ⟨jb, 0, none⟩)] 31 :: R))) w5 := h5.perm (by
      have e1 : (y.es L jb ++ ([dmE L y.p s x, boxE L H #[.pointer (some ⟨jb, 0, none⟩)] 31] ++ (boxE L (H + 1) #[.int .i64 0] 25 :: R))).Perm (boxE L (H + 1) #[.int .i64 0] 25 :: (y.es L jb ++ ([dmE L y.p s x, boxE L H #[.pointer (some ⟨jb, 0, none⟩)] 31] ++ R))) := by
        rw [← List.append_assoc, ← List.append_assoc]
        exact List.perm_middle
      simpa using e1)
    refine ⟨hd.chg (setCell_chg _ _ _ _) (fun k hk e => ?_), (HBB.out.1.trans hb5).trans ((setCell_chg _ _ _ _).below (jlow h5) (fun k e => ?_)), hs⟩
    · refine hbx.apart (k := k) e ?_
      obtain ⟨en, hen, hv⟩ := hk
      refine ⟨en, ?_, hv⟩
      rcases List.mem_append.1 hen with h9 | h9
      · exact List.mem_append_left _ h9
      · refine List.mem_append_right _ ?_
        rcases List.mem_cons.1 h9 with h10 | h10
        · rw [h10]; exact List.mem_cons_self ..
        · exact List.mem_cons_of_mem _ (List.mem_cons_of_mem _ h10)
    · have := (h5.all (boxE L (H + 1) #[.int .i64 0] 25) (by simp)).2
      omega
  clear hB5 h5 hb5
  go_wp2_with fail
  have z2 := HF.out.2.2
  clear z1 f1
  generalize w5.setCell ⟨H + 1, 0, none⟩ (.int .i64 211) = w6 at HF z2 ⊢
  refine leaves_cons (f := 37) (args := #[.pointer (some ⟨H + 1, 0, none⟩), .pointer (some ⟨H, 0, none⟩)]) (by simp) (by simp [go_sem]) ?_
  refine (late_any (H + 1) H 211 (by decide) .returning _ z2).mono ?_
  rintro e u' w' ⟨rfl, rfl, rfl⟩
  refine ⟨.int .i64 211, ?_, rfl, HF.out.1, HF.out.2.1⟩
  simp [results, Try.results16, go_sem, z2]
section
variable {jb : Nat}
set_option maxRecDepth 100000
theorem dead_yes (w : World) (h : Blk w jb deadA 79) : Calls Try.prog 42 #[.pointer (some ⟨jb, 0, none⟩)] w fun e w' => e = .returned (.bool true) ∧ w' = w := by
  have c4 : w.cell? ⟨jb, 4, none⟩ = some (.bool true) := h.cell 4
  clear h
  go_enter Try.func42, Try.ntmps42
  go_wp2_with fail
  go_ret
  exact ⟨rfl, rfl⟩
theorem len_dead (w : World) (h : Blk w jb deadA 79) : Calls Try.prog 30 #[.pointer (some ⟨jb, 0, none⟩)] w fun e w' => e = .returned (.int .i64 0) ∧ w' = w := by
  have c1 : w.cell? ⟨jb, 1, none⟩ = some (.slice none 0 0) := h.cell 1
  clear h
  go_enter Try.func30, Try.ntmps30
  go_wp2_with fail
  go_ret
  exact ⟨rfl, rfl⟩
set_option maxHeartbeats 1600000 in
theorem append_dead (w : World) (h : Blk w jb deadA 79) : Calls Try.prog 16 #[.pointer (some ⟨jb, 0, none⟩), .slice none 0 0] w fun e w' => e = .returned (.int .i64 200) ∧ Blk w' jb deadA 79 ∧ Chg (fun k => k = jb) w w' := by
  have hmf : ∀ (fn : Fn) (first cap : Array Value) (w : World), (Instr.makeFunc fn first cap).run Try.prog w = .ok (.func fn first cap) w := fun _ _ _ _ => rfl
  obtain ⟨H, hH⟩ : ∃ H, H = w.heap.size := ⟨_, rfl⟩
  obtain ⟨w1, hw1⟩ : ∃ w1, w1 = (w.alloc (.cells #[.pointer (some ⟨jb, 0, none⟩)] 31)).alloc (.cells #[.int .i64 0] 25) := ⟨_, rfl⟩
  have hb1 : Below H w w1 := by rw [hw1, hH]; exact ((Below.refl _ _).alloc (Nat.le_refl _) _).alloc (by rw [World.size_alloc]; omega) _
  have hB0 : Blk w1 H #[.pointer (some ⟨jb, 0, none⟩)] 31 := by rw [hw1, hH]; exact heap_alloc2_old w _ _
  have hB1 : Blk w1 (H + 1) #[.int .i64 0] 25 := by rw [hw1, hH]; exact heap_alloc2_new w _ _
  have hlt : jb < H := by rw [hH]; exact h.lt
  have hJ : Blk w1 jb deadA 79 := h.below hb1 hlt
  have c4 : w1.cell? ⟨jb, 4, none⟩ = some (.bool true) := hJ.cell 4
  have b0 : w1.cell? ⟨H, 0, none⟩ = some (.pointer (some ⟨jb, 0, none⟩)) := hB0.cell 0
  have z1 : w1.cell? ⟨H + 1, 0, none⟩ = some (.int .i64 0) := hB1.cell 0
  have f1 : w1.frozen? ⟨H + 1, 0, none⟩ = false := hB1.frozen 0
  have HF : Hid (Blk (w1.setCell ⟨H + 1, 0, none⟩ (.int .i64 200)) jb deadA 79 ∧ Below H w (w1.setCell ⟨H + 1, 0, none⟩ (.int .i64 200)) ∧ (w1.setCell ⟨H + 1, 0, none⟩ (.int .i64 200)).cell? ⟨H + 1, 0, none⟩ = some (.int .i64 200) ∧ (w1.setCell ⟨H + 1, 0, none⟩ (.int .i64 200)).cell? ⟨H, 0, none⟩ = some (.pointer (some ⟨jb, 0, none⟩)) ∧ jb < H ∧ H = w.heap.size) := by
    refine ⟨(setCell_chg _ _ _ _).blk hJ (by omega), hb1.trans ((setCell_chg w1 (H + 1) 0 (.int .i64 200)).below (by have := hb1.size; omega) (fun k e => by omega)), by rw [(hB1.set 0 _).cell 0]; rfl, ?_, hlt, hH⟩
    have : Blk (w1.setCell ⟨H + 1, 0, none⟩ (.int .i64 200)) H #[.pointer (some ⟨jb, 0, none⟩)] 31 := (setCell_chg _ _ _ _).blk hB0 (by omega)
    exact this.cell 0
  clear h hb1 hB0 hB1 hJ hlt
  go_enter_defers Try.func16, Try.ntmps16
  go_upto_region 2 with fail
  rw [← hw1, ← hH]
  clear hw1 hH
  go_wp2_with fail
  have z2 := HF.out.2.2.1
  have z3 := HF.out.2.2.2.1
  clear z1 f1 c4 b0
  generalize w1.setCell ⟨H + 1, 0, none⟩ (.int .i64 200) = w6 at HF z2 z3 ⊢
  refine leaves_cons (f := 37) (args := #[.pointer (some ⟨H + 1, 0, none⟩), .pointer (some ⟨H, 0, none⟩)]) (by simp) (by simp [go_sem]) ?_
  refine (late_die .returning _ z2 z3 HF.out.1 rfl).mono ?_
  rintro e u' w' ⟨rfl, rfl, hd1, hd2⟩
  have hne : (H + 1) ≠ jb := fun e => by have := HF.out.2.2.2.2.1; omega
  have zz : w'.cell? ⟨H + 1, 0, none⟩ = some (.int .i64 200) := by
    rw [← z2]
    exact World.cell?_of_block (w := w6) (hd2.block _ (World.block_lt_of_cell? w6 _ z2) hne)
  have hbb : Below w.heap.size w w6 := by rw [← HF.out.2.2.2.2.2]; exact HF.out.2.1
  refine ⟨.int .i64 200, ?_, rfl, hd1, (Chg.ofBelow (fun k => k = jb) hbb).trans hd2 (fun _ _ e => e)⟩
  simp [results, Try.results16, go_sem, zz]
end
end Go.Proofs.Ytcnokgphioigoaa
