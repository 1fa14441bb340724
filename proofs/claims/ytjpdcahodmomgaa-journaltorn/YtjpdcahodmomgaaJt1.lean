import Derived.Test.YtjpdcahodmomgaaJn8
import Derived.Test.YtjpdcahodmomgaaJn17
namespace Go.Proofs.Ytjpdcahodmomgaa
open Go.RowKit Go.PlainAid
set_option linter.unusedVariables false
set_option linter.unusedSimpArgs false
/-- What is left of the fuse behind some writes. -/
theorem wroteX_arm (x : DV) (num next : Nat) (bs : List UInt8) : ∀ i, (x.armed = true → i ≤ x.whole) → (wroteX x num next bs i).off = x.off ∧ (wroteX x num next bs i).n = x.n ∧ (wroteX x num next bs i).armed = x.armed ∧ (wroteX x num next bs i).torn = x.torn ∧ (wroteX x num next bs i).whole = (if x.armed = true then x.whole - i else x.whole) ∧ (wroteX x num next bs i).writes = x.writes + i
  | 0, _ => ⟨rfl, rfl, rfl, rfl, by show x.whole = _; split <;> omega, rfl⟩
  | i + 1, hi => by
    obtain ⟨h1, h2, h3, h4, h5, h6⟩ := wroteX_arm x num next bs i (fun e => by have := hi e; omega)
    cases har : x.armed with
    | false =>
      have e : ((wroteX x num next bs i).noted (next + i)).dec = (wroteX x num next bs i).noted (next + i) := by
        unfold DV.dec
        rw [if_neg]
        show ¬ (wroteX x num next bs i).armed = true
        rw [h3, har]; simp
      rw [har] at h3 h5
      refine ⟨?_, ?_, ?_, ?_, ?_, ?_⟩
      · show (((wroteX x num next bs i).noted (next + i)).dec.put (next + i) 512 _).off = _
        rw [e]; exact h1
      · show (((wroteX x num next bs i).noted (next + i)).dec.put (next + i) 512 _).n = _
        rw [e]; exact h2
      · show (((wroteX x num next bs i).noted (next + i)).dec.put (next + i) 512 _).armed = _
        rw [e]; exact h3
      · show (((wroteX x num next bs i).noted (next + i)).dec.put (next + i) 512 _).torn = _
        rw [e]; exact h4
      · show (((wroteX x num next bs i).noted (next + i)).dec.put (next + i) 512 _).whole = _
        rw [e]; exact h5
      · show (((wroteX x num next bs i).noted (next + i)).dec.put (next + i) 512 _).writes = _
        rw [e]
        show (wroteX x num next bs i).writes + 1 = _
        omega
    | true =>
      have e : ((wroteX x num next bs i).noted (next + i)).dec = { (wroteX x num next bs i).noted (next + i) with whole := (wroteX x num next bs i).whole - 1 } := by
        unfold DV.dec
        rw [if_pos]
        · rfl
        · show (wroteX x num next bs i).armed = true
          rw [h3, har]
      rw [har] at h3 h5
      simp only [if_true] at h5
      refine ⟨?_, ?_, ?_, ?_, ?_, ?_⟩
      · show (((wroteX x num next bs i).noted (next + i)).dec.put (next + i) 512 _).off = _
        rw [e]; exact h1
      · show (((wroteX x num next bs i).noted (next + i)).dec.put (next + i) 512 _).n = _
        rw [e]; exact h2
      · show (((wroteX x num next bs i).noted (next + i)).dec.put (next + i) 512 _).armed = _
        rw [e]; exact h3
      · show (((wroteX x num next bs i).noted (next + i)).dec.put (next + i) 512 _).torn = _
        rw [e]; exact h4
      · show (((wroteX x num next bs i).noted (next + i)).dec.put (next + i) 512 _).whole = _
        rw [e]
        show (wroteX x num next bs i).whole - 1 = _
        rw [h5, if_pos rfl]; omega
      · show (((wroteX x num next bs i).noted (next + i)).dec.put (next + i) 512 _).writes = _
        rw [e]
        show (wroteX x num next bs i).writes + 1 = _
        omega
/-- A disk on which the power has failed in the midst of a record's sector. -/
def tornX (x : DV) (num next : Nat) (bs : List UInt8) (m : Nat) : DV := (((wroteX x num next bs m).noted (next + m)).put (next + m) x.torn (secJ (markL num m bs.length) (pieceL bs m))).offed
/-- How a record is written: whole, or the power fails. -/
def WrO (L jb s : Nat) (y : JV) (x : DV) (R : List (Ent L)) (bs : List UInt8) (k : Nat) (w : World) (e : Ending) (w' : World) : Prop :=
  ((x.armed = true → k ≤ x.whole) ∧ e = .returned (.int .i64 0) ∧ ∃ rv' v', Held ((y.added rv' v' bs).es L jb ++ (dmE L y.p s (wroteX x (y.recs.length + 1) y.next bs k) :: R)) w' ∧ Below L w w') ∨
  (x.armed = true ∧ x.whole < k ∧ e = .returned (.int .i64 200) ∧ Held (y.es L jb ++ (dmE L y.p s (tornX x (y.recs.length + 1) y.next bs x.whole) :: R)) w' ∧ Below L w w')
set_option maxRecDepth 100000 in
set_option maxHeartbeats 3200000 in
theorem jwrite_gen {L jb s : Nat} {y : JV} {x : DV} {R : List (Ent L)} {vo : Option Addr} {n c : Nat} {bs : List UInt8} (w : World) (h : Held (y.es L jb ++ (dmE L y.p s x :: R)) w) (hb : ∀ W, Below L w W → Held R W → By W (.slice vo n c) bs) (hc : n ≤ c) (hn : n ≤ 8192) (ho : x.off = false) (ht : x.torn ≤ 512) (hwh : x.whole ≤ 9223372036854775807) (hwr : x.writes ≤ 900000000000000000) (hr : y.recs.length ≤ 1000) (hx : y.next + kS n ≤ x.n) (hxn : x.n ≤ 65536) :
    Calls Try.prog 41 #[.pointer (some ⟨jb, 0, none⟩), .slice vo n c] w fun e w' => WrO L jb s y x R bs (kS n) w e w' := by
  have hkn := kS_le n hn
  have hL := jlow h
  have hbl : bs.length = n := by
    have hR : Held R w := Held.drop (Held.tailR h)
    obtain ⟨_, _, _, e, e2, _⟩ := hb w (Below.refl _ _) hR
    cases e; exact e2
  obtain ⟨k, hk⟩ : ∃ k, k = kS n := ⟨_, rfl⟩
  have HKN : Hid (k = kS n) := hk
  have HBL : Hid (bs.length = n ∧ n ≤ c ∧ n ≤ 8192) := ⟨hbl, hc, hn⟩
  have HBY : Hid (∀ W, Below L w W → Held R W → By W (.slice vo n c) bs) := hb
  have HK : Hid (∀ W : World, Calls Try.prog 40 #[.int .i64 (n : Int)] W fun e w' => e = .returned (.int .i64 (k : Int)) ∧ w' = W) := fun W => by rw [hk]; exact kS_any n W (by omega)
  have HX : Hid (∀ i, (x.armed = true → i ≤ x.whole) → (wroteX x (y.recs.length + 1) y.next bs i).off = false ∧ (wroteX x (y.recs.length + 1) y.next bs i).n = x.n ∧ (wroteX x (y.recs.length + 1) y.next bs i).armed = x.armed ∧ (wroteX x (y.recs.length + 1) y.next bs i).torn = x.torn ∧ (wroteX x (y.recs.length + 1) y.next bs i).whole = (if x.armed = true then x.whole - i else x.whole) ∧ (wroteX x (y.recs.length + 1) y.next bs i).writes = x.writes + i) := fun i hi => by
    have := wroteX_arm x (y.recs.length + 1) y.next bs i hi
    rwa [ho] at this
  have HT : Hid (x.torn ≤ 512) := ht
  have HB : Hid (x.whole ≤ 9223372036854775807 ∧ x.writes ≤ 900000000000000000 ∧ y.recs.length ≤ 1000 ∧ y.next + k ≤ x.n ∧ x.n ≤ 65536 ∧ k ≤ 17) := ⟨hwh, hwr, hr, by rw [hk]; exact hx, hxn, by rw [hk]; exact hkn⟩
  have HH : Hid (Held (y.es L jb ++ (dmE L y.p s x :: R)) w) := h
  have hkk : k ≤ 17 := HB.out.2.2.2.2.2
  rw [← hk]
  clear h hb hc hn ho ht hwh hwr hr hx hxn hbl hk hkn
  go_enter Try.func41, Try.ntmps41
  go_wp2_with fail
  refine Calls.mono (HK.out _) ?_
  rintro e wk ⟨rfl, hwk⟩
  replace hwk := hwk.symm
  subst hwk
  clear HK
  go_wp2_with fail
  go_loopw [10] (fun s10 wr => ∃ i : Nat, i ≤ k ∧ (x.armed = true → i ≤ x.whole) ∧ s10 = .int .i64 (i : Int) ∧ Held (y.es L jb ++ (dmE L y.p s (wroteX x (y.recs.length + 1) y.next bs i) :: R)) wr ∧ Below L w wr) (fun s10 _ => k - (intOf s10).toNat)
  case atStart => exact ⟨0, Nat.zero_le _, fun _ => Nat.zero_le _, rfl, HH.out, Below.refl _ _⟩
  case round =>
    clear HH
    obtain ⟨i, hi, hiw, rfl, hH, hb⟩ := hrel
    have HIW : Hid (x.armed = true → i ≤ x.whole) := hiw
    clear hiw
    have hBd := HB.out
    have hbl := HBL.out
    by_cases hlt : i < k
    · have HN : Hid _ := number_any wr hH (by omega)
      have HM : Hid (∀ W, Calls Try.prog 54 #[.int .i64 ((y.recs.length + 1 : Nat) : Int), .int .i64 (i : Int), .int .i64 (n : Int)] W fun e w' => e = .returned (.agg (markA (y.recs.length + 1) i n)) ∧ Below W.heap.size W w') := fun W => mark_any (y.recs.length + 1) i n W (by omega) (by omega) hbl.2.2
      have HHH : Hid (Held (y.es L jb ++ (dmE L y.p s (wroteX x (y.recs.length + 1) y.next bs i) :: R)) wr ∧ Below L w wr) := ⟨hH, hb⟩
      have hlw : L ≤ wr.heap.size := jlow hH
      clear hH hb
      obtain ⟨num, hnum⟩ : ∃ num, num = y.recs.length + 1 := ⟨_, rfl⟩
      rw [← hnum] at HN HM
      have HNU : Hid (num = y.recs.length + 1) := hnum
      clear hnum hBd hbl
      go_wp2_with fail
      refine Calls.mono HN.out ?_
      rintro e w1 ⟨rfl, hw1⟩
      replace hw1 := hw1.symm
      subst hw1
      clear HN
      go_wp2_with fail
      refine Calls.mono (HM.out _) ?_
      rintro e w1 ⟨rfl, hb1⟩
      clear HM
      have hb1' : Below L wr w1 := hb1.mono hlw
      have h1 := HHH.out.1.more hb1
      have hR1 : Held R w1 := Held.drop (Held.tailR h1)
      have hby1 := HBY.out w1 (HHH.out.2.trans hb1') hR1
      have HP : Hid _ := part_any (place := i) w1 hby1 HBL.out.2.1 HBL.out.2.2 (by rw [← HKN.out]; exact hlt)
      have H1 : Hid (Held (y.es L jb ++ (dmE L y.p s (wroteX x (y.recs.length + 1) y.next bs i) :: R)) w1 ∧ Below L w w1) := ⟨h1, HHH.out.2.trans hb1'⟩
      clear hb1 hb1' h1 hR1 hby1 HHH hlw
      have e3 : markA num i n = ((markL num i n).map B).toArray := rfl
      rw [e3]
      clear e3
      go_wp2_with fail
      refine Calls.mono HP.out ?_
      rintro e w2 ⟨pv, rfl, hpb, hw2⟩
      replace hw2 := hw2.symm
      subst hw2
      clear HP
      have HSC : Hid _ := sector_any (m := markL num i n) w1 (markL_len _ _ _) hpb (pieceL_len bs i)
      clear hpb
      go_wp2_with fail
      refine Calls.mono HSC.out ?_
      rintro e w3 ⟨sv, rfl, hsr, hb3⟩
      clear HSC
      have hlw : L ≤ w1.heap.size := jlow H1.out.1
      have h3 := H1.out.1.more hb3
      have hb3' : Below L w w3 := H1.out.2.trans (hb3.mono hlw)
      have hd3 : DM L y.p s (wroteX x (y.recs.length + 1) y.next bs i) w3 := h3.all (dmE L y.p s (wroteX x (y.recs.length + 1) y.next bs i)) (by simp)
      have c0 : w3.cell? ⟨jb, 0, none⟩ = some (.pointer (some ⟨y.p, 0, none⟩)) := (jbox h3).cell 0
      have c2 : w3.cell? ⟨jb, 2, none⟩ = some (.int .i64 (y.next : Int)) := (jbox h3).cell 2
      obtain ⟨sao, sc, hsv, hsc⟩ := own_slice hsr
      have hx := HX.out i HIW.out
      have hB := HB.out
      have hnp : ∀ ad k c, sv = .slice (some ad) k c → ad.block ≠ y.p := fun ad k c e => by
        have h5 : sv.ownBlock = some ad.block := by rw [e]; rfl
        have h6 := (ownsRow_lt hsr h5).1
        have h7 := (((h1d H1.out.1).lt (Or.inl rfl)).2 : y.p < w1.heap.size)
        omega
      by_cases hgo : x.armed = true → i + 1 ≤ x.whole
      · have HWR : Hid (∀ W, Below w3.heap.size w3 W → Calls Try.prog 59 #[.pointer (some ⟨y.p, 0, none⟩), .int .i64 ((y.next : Int) + (i : Int)), sv] W fun e w' => e = .returned (.int .i64 0) ∧ DM L y.p s (wroteX x (y.recs.length + 1) y.next bs (i + 1)) w' ∧ Chg (down y.p s) w3 w') := fun W hW => by
          have h5 := write_whole (y.next + i) W (hd3.more hW) hx.1 (by rw [hx.2.1]; omega) (secJ_len _ _) ((own_by (by rw [secJ_len]; exact hsr)).keep hW) hnp (fun e => by rw [hx.2.2.1] at e; have := hgo e; rw [hx.2.2.2.2.1, if_pos e]; omega) (by rw [hx.2.2.2.2.1]; have := hB.1; split <;> omega) (by rw [hx.2.2.2.2.2]; omega)
          rw [show ((y.next + i : Nat) : Int) = (y.next : Int) + (i : Int) by omega] at h5
          refine h5.mono ?_
          rintro e w' ⟨k1, k2, k3⟩
          refine ⟨k1, ?_, ((Chg.ofBelow (down y.p s) hW).trans k3 (fun _ _ e => e))⟩
          have : wroteX x (y.recs.length + 1) y.next bs (i + 1) = ((wroteX x (y.recs.length + 1) y.next bs i).noted (y.next + i)).dec.put (y.next + i) 512 (secJ (markL (y.recs.length + 1) i bs.length) (pieceL bs i)) := rfl
          rw [this, HBL.out.1]
          rw [HNU.out] at k2
          exact k2
        have HGO : Hid (x.armed = true → i + 1 ≤ x.whole) := hgo
        have H3 : Hid (Held (y.es L jb ++ (dmE L y.p s (wroteX x (y.recs.length + 1) y.next bs i) :: R)) w3 ∧ Below L w w3 ∧ L ≤ w3.heap.size) := ⟨h3, hb3', Nat.le_trans hlw hb3.size⟩
        have hnx : y.next ≤ 65536 := by omega
        obtain ⟨nx, hnx'⟩ : ∃ nx, nx = y.next := ⟨_, rfl⟩
        have E9 : Hid (IntKind.i64.wrap ((nx : Int) + (i : Int)) = (y.next : Int) + (i : Int)) := by rw [Hid, IntKind.wrap_i64, hnx']; omega
        rw [← hnx'] at c2 hnx
        subst hsv
        clear hgo H1 hsr hb3 h3 hb3' hd3 hx hB hnp hnx' hsc hlw
        go_wp2_with fail
        go_region_with (go_at_call 59; rw [E9.out]; refine (HWR.out _ (by first | exact Below.refl _ _ | exact (Below.refl _ _).drew)).mono ?_; rintro e w4 ⟨rfl, hd4, hc4⟩)
        all_goals
          have HN2 : Hid (Held (y.es L jb ++ (dmE L y.p s (wroteX x (y.recs.length + 1) y.next bs (i + 1)) :: R)) w4 ∧ Below L w w4) := ⟨held_disk H3.out.1 hd4 hc4, H3.out.2.1.trans (hc4.below H3.out.2.2 (fun k hk => ((h1d H3.out.1).lt hk).1))⟩
          clear hd4 hc4 HWR H3
          go_wp2_with fail
          go_roundw
          case rel => exact ⟨i + 1, by omega, HGO.out, by go_num, by first | exact ⟨HN2.out.1, HN2.out.2⟩ | exact ⟨HN2.out.1.drewN 1, below_dr HN2.out.2 1⟩⟩
          case measure => simp [intOf]; omega
      · obtain ⟨har, hwi⟩ : x.armed = true ∧ x.whole = i := by
          by_cases e : x.armed = true
          · exact ⟨e, by have := HIW.out e; have : ¬ i + 1 ≤ x.whole := fun h => hgo (fun _ => h); omega⟩
          · exact absurd (fun h => absurd h e) hgo
        have HWR : Hid (∀ W, Below w3.heap.size w3 W → Calls Try.prog 59 #[.pointer (some ⟨y.p, 0, none⟩), .int .i64 ((y.next : Int) + (i : Int)), sv] W fun e w' => e = .returned (.int .i64 200) ∧ DM L y.p s (tornX x (y.recs.length + 1) y.next bs x.whole) w' ∧ Chg (down y.p s) w3 w') := fun W hW => by
          have h5 := write_torn (y.next + i) W (hd3.more hW) hx.1 (by rw [hx.2.1]; omega) (secJ_len _ _) ((own_by (by rw [secJ_len]; exact hsr)).keep hW) hnp (by rw [hx.2.2.1]; exact har) (by rw [hx.2.2.2.2.1, if_pos har]; omega) (by rw [hx.2.2.2.1]; exact HT.out) (by rw [hx.2.2.2.2.2]; omega)
          rw [show ((y.next + i : Nat) : Int) = (y.next : Int) + (i : Int) by omega] at h5
          refine h5.mono ?_
          rintro e w' ⟨k1, k2, k3⟩
          refine ⟨k1, ?_, ((Chg.ofBelow (down y.p s) hW).trans k3 (fun _ _ e => e))⟩
          unfold tornX
          rw [hwi, HBL.out.1]
          rw [HNU.out, hx.2.2.2.1] at k2
          exact k2
        have HAR : Hid (x.armed = true ∧ x.whole < k) := ⟨har, by omega⟩
        have H3 : Hid (Held (y.es L jb ++ (dmE L y.p s (wroteX x (y.recs.length + 1) y.next bs i) :: R)) w3 ∧ Below L w w3 ∧ L ≤ w3.heap.size) := ⟨h3, hb3', Nat.le_trans hlw hb3.size⟩
        have hnx : y.next ≤ 65536 := by omega
        obtain ⟨nx, hnx'⟩ : ∃ nx, nx = y.next := ⟨_, rfl⟩
        have E9 : Hid (IntKind.i64.wrap ((nx : Int) + (i : Int)) = (y.next : Int) + (i : Int)) := by rw [Hid, IntKind.wrap_i64, hnx']; omega
        rw [← hnx'] at c2 hnx
        subst hsv
        clear har hwi hgo H1 hsr hb3 h3 hb3' hd3 hx hB hnp hnx' hsc hlw
        go_wp2_with fail
        go_region_with (go_at_call 59; rw [E9.out]; refine (HWR.out _ (by first | exact Below.refl _ _ | exact (Below.refl _ _).drew)).mono ?_; rintro e w4 ⟨rfl, hd4, hc4⟩)
        all_goals
          have HN2 : Hid (Held (y.es L jb ++ (dmE L y.p s (tornX x (y.recs.length + 1) y.next bs x.whole) :: R)) w4 ∧ Below L w w4) := ⟨held_disk H3.out.1 hd4 hc4, H3.out.2.1.trans (hc4.below H3.out.2.2 (fun k hk => ((h1d H3.out.1).lt hk).1))⟩
          clear hd4 hc4 HWR H3
          go_wp2_with fail
          go_ret
          first
            | exact Or.inr ⟨HAR.out.1, HAR.out.2, rfl, HN2.out.1, HN2.out.2⟩
            | exact Or.inr ⟨HAR.out.1, HAR.out.2, rfl, HN2.out.1.drewN 1, below_dr HN2.out.2 1⟩
    · have hin : ¬ ((i : Int) < (k : Int)) := by omega
      have hik : i = k := by omega
      have hik' := hik
      rw [hik] at hH
      have hR : Held R wr := Held.drop (Held.tailR hH)
      have HCL : Hid _ := clone_any wr (HBY.out wr hb hR) hbl.2.2
      have HH : Hid (Held (y.es L jb ++ (dmE L y.p s (wroteX x (y.recs.length + 1) y.next bs k) :: R)) wr ∧ Below L w wr ∧ L ≤ wr.heap.size) := ⟨hH, hb, jlow hH⟩
      clear hH hb hR hik hBd hbl
      go_wp2_with fail
      refine Calls.mono HCL.out ?_
      rintro e w1 ⟨cv, rfl, hcr, hb1⟩
      clear HCL
      obtain ⟨co, cc, hcv, hcc⟩ := own_slice hcr
      subst hcv
      have h2 : Held (y.es L jb ++ (datE L (.slice co n cc, bs) :: dmE L y.p s (wroteX x (y.recs.length + 1) y.next bs k) :: R)) w1 := by
        have h3 : Held (datE L (.slice co n cc, bs) :: (y.es L jb ++ (dmE L y.p s (wroteX x (y.recs.length + 1) y.next bs k) :: R))) w1 := Held.fresh HH.out.1 hb1 (show w1.ownsRow L 5 1 (.slice co n cc) bs.length (bs.map B) by rw [HBL.out.1]; exact ownsRow_mono hcr HH.out.2.2) (fun k hk => (ownsRow_lt hcr hk).1)
        exact h3.perm List.perm_middle.symm
      have hB := HB.out
      have HA : Hid _ := add_any w1 h2 HBL.out.1 HBL.out.2.2 hB.2.2.1 (by omega)
      have H2 : Hid (Held (y.es L jb ++ (datE L (.slice co n cc, bs) :: dmE L y.p s (wroteX x (y.recs.length + 1) y.next bs k) :: R)) w1 ∧ Below L w w1) := ⟨h2, HH.out.2.1.trans (hb1.mono HH.out.2.2)⟩
      clear hcr hb1 h2 hB HH hcc
      go_wp2_with fail
      refine Calls.mono HA.out ?_
      rintro e w2 ⟨rfl, rv', h3, hc3⟩
      have HF : Hid (∃ rv' v', Held ((y.added rv' v' bs).es L jb ++ (dmE L y.p s (wroteX x (y.recs.length + 1) y.next bs k) :: R)) w2 ∧ Below L w w2) := ⟨rv', _, h3, H2.out.2.trans (Held.below2 H2.out.1 (jlow H2.out.1) hc3 (fun q hq => by
        rcases hq with e | e
        · exact ⟨boxE L jb y.cs 80, by simp [JV.es], e⟩
        · exact ⟨tailE L 38 y.rv y.recs.length (y.recs.map Prod.fst), by simp [JV.es], e⟩))⟩
      clear HA h3 hc3 H2
      go_wp2_with fail
      go_ret
      obtain ⟨rv', v', h4, h5⟩ := HF.out
      have hiw := HIW.out
      refine Or.inl ⟨by rw [← hik']; exact hiw, rfl, rv', v', h4, h5⟩
end Go.Proofs.Ytjpdcahodmomgaa
