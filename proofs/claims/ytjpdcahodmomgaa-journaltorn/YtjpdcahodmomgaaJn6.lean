import Derived.Test.YtjpdcahodmomgaaJn5
namespace Go.Proofs.Ytjpdcahodmomgaa
open Go.RowKit Go.PlainAid
set_option linter.unusedVariables false
set_option linter.unusedSimpArgs false
/-- A disk behind some of a record's sectors. -/
def wroteX (x : DV) (num next : Nat) (bs : List UInt8) : Nat → DV
  | 0 => x
  | i + 1 => ((wroteX x num next bs i).noted (next + i)).dec.put (next + i) 512 (secJ (markL num i bs.length) (pieceL bs i))
theorem wroteX_facts (x : DV) (num next : Nat) (bs : List UInt8) (ha : x.armed = false) : ∀ i, (wroteX x num next bs i).off = x.off ∧ (wroteX x num next bs i).n = x.n ∧ (wroteX x num next bs i).armed = false ∧ (wroteX x num next bs i).whole = x.whole ∧ (wroteX x num next bs i).writes = x.writes + i
  | 0 => ⟨rfl, rfl, ha, rfl, rfl⟩
  | i + 1 => by
    obtain ⟨h1, h2, h3, h4, h5⟩ := wroteX_facts x num next bs ha i
    have e : ((wroteX x num next bs i).noted (next + i)).dec = (wroteX x num next bs i).noted (next + i) := by
      unfold DV.dec
      rw [if_neg]
      show ¬ (wroteX x num next bs i).armed = true
      rw [h3]; simp
    refine ⟨?_, ?_, ?_, ?_, ?_⟩
    · show (((wroteX x num next bs i).noted (next + i)).dec.put (next + i) 512 _).off = _
      rw [e]; exact h1
    · show (((wroteX x num next bs i).noted (next + i)).dec.put (next + i) 512 _).n = _
      rw [e]; exact h2
    · show (((wroteX x num next bs i).noted (next + i)).dec.put (next + i) 512 _).armed = _
      rw [e]; exact h3
    · show (((wroteX x num next bs i).noted (next + i)).dec.put (next + i) 512 _).whole = _
      rw [e]; exact h4
    · show (((wroteX x num next bs i).noted (next + i)).dec.put (next + i) 512 _).writes = _
      rw [e]
      show (wroteX x num next bs i).writes + 1 = _
      omega
theorem held_disk {L p s : Nat} {x x' : DV} {es R : List (Ent L)} {w w' : World} (h : Held (es ++ (dmE L p s x :: R)) w) (hd : DM L p s x' w') (hc : Chg (down p s) w w') : Held (es ++ (dmE L p s x' :: R)) w' :=
  Held.at (e := dmE L p s x) (e' := dmE L p s x') h hc hd (fun k hk => Or.inl hk)
theorem Held.below2 {L : Nat} {es : List (Ent L)} {w w' : World} {A : Nat → Prop} (h : Held es w) (hL : L ≤ w.heap.size) (hc : Chg A w w') (hA : ∀ k, A k → has es k) : Below L w w' := hc.below hL (fun k hk => (h.typ (hA k hk)).1)
theorem below_dr {L : Nat} {w w' : World} (h : Below L w w') (q : Nat) : Below L w (w'.drewN q) := ⟨h.os, h.tape, h.output, h.size, h.block⟩
theorem h1d {L p s : Nat} {x : DV} {es R : List (Ent L)} {w : World} (h : Held (es ++ (dmE L p s x :: R)) w) : DM L p s x w := h.all (dmE L p s x) (by simp)
theorem Held.tailR {L : Nat} {es R : List (Ent L)} {w : World} (h : Held (es ++ R) w) : Held R w := ⟨fun e he => h.all e (List.mem_append_right _ he), (List.pairwise_append.1 h.dj).2.1⟩
set_option maxRecDepth 100000 in
set_option maxHeartbeats 3200000 in
theorem jwrite_yes {L jb s : Nat} {y : JV} {x : DV} {R : List (Ent L)} {vo : Option Addr} {n c : Nat} {bs : List UInt8} (w : World) (h : Held (y.es L jb ++ (dmE L y.p s x :: R)) w) (hb : ∀ W, Below L w W → Held R W → By W (.slice vo n c) bs) (hc : n ≤ c) (hn : n ≤ 8192) (ho : x.off = false) (ha : x.armed = false) (hwh : x.whole ≤ 9223372036854775807) (hwr : x.writes ≤ 900000000000000000) (hr : y.recs.length ≤ 1000) (hx : y.next + kS n ≤ x.n) (hxn : x.n ≤ 65536) :
    Calls Try.prog 41 #[.pointer (some ⟨jb, 0, none⟩), .slice vo n c] w fun e w' => e = .returned (.int .i64 0) ∧ ∃ rv' v', Held ((y.added rv' v' bs).es L jb ++ (dmE L y.p s (wroteX x (y.recs.length + 1) y.next bs (kS n)) :: R)) w' ∧ Below L w w' := by
  have hkn := kS_le n hn
  have hL := jlow h
  have hbl : bs.length = n := by
    have hR : Held R w := Held.drop (Held.tailR h)
    obtain ⟨_, _, _, e, e2, _⟩ := hb w (Below.refl _ _) hR
    cases e; exact e2
  obtain ⟨k, hk⟩ : ∃ k, k = kS n := ⟨_, rfl⟩
  have HKN : Hid (k = kS n) := hk
  have HBL : Hid (bs.length = n ∧ n ≤ c ∧ n ≤ 8192) := ⟨hbl, hc, hn⟩
  have HBY : Hid (∀ W, Below L w W → Held R W → By W (.slice vo n c) bs) := hb
  have HK : Hid (∀ W : World, Calls Try.prog 40 #[.int .i64 (n : Int)] W fun e w' => e = .returned (.int .i64 (k : Int)) ∧ w' = W) := fun W => by rw [hk]; exact kS_any n W (by omega)
  have HX : Hid (∀ i, (wroteX x (y.recs.length + 1) y.next bs i).off = false ∧ (wroteX x (y.recs.length + 1) y.next bs i).n = x.n ∧ (wroteX x (y.recs.length + 1) y.next bs i).armed = false ∧ (wroteX x (y.recs.length + 1) y.next bs i).whole = x.whole ∧ (wroteX x (y.recs.length + 1) y.next bs i).writes = x.writes + i) := fun i => by
    have := wroteX_facts x (y.recs.length + 1) y.next bs ha i
    rwa [ho] at this
  have HB : Hid (x.whole ≤ 9223372036854775807 ∧ x.writes ≤ 900000000000000000 ∧ y.recs.length ≤ 1000 ∧ y.next + k ≤ x.n ∧ x.n ≤ 65536 ∧ k ≤ 17) := ⟨hwh, hwr, hr, by rw [hk]; exact hx, hxn, by rw [hk]; exact hkn⟩
  have HH : Hid (Held (y.es L jb ++ (dmE L y.p s x :: R)) w) := h
  have hkk : k ≤ 17 := HB.out.2.2.2.2.2
  rw [← hk]
  clear h hb hc hn ho ha hwh hwr hr hx hxn hbl hk hkn
  go_enter Try.func41, Try.ntmps41
  go_wp2_with fail
  refine Calls.mono (HK.out _) ?_
  rintro e wk ⟨rfl, hwk⟩
  replace hwk := hwk.symm
  subst hwk
  clear HK
  go_wp2_with fail
  go_loopw [10] (fun s10 wr => ∃ i : Nat, i ≤ k ∧ s10 = .int .i64 (i : Int) ∧ Held (y.es L jb ++ (dmE L y.p s (wroteX x (y.recs.length + 1) y.next bs i) :: R)) wr ∧ Below L w wr) (fun s10 _ => k - (intOf s10).toNat)
  case atStart => exact ⟨0, Nat.zero_le _, rfl, HH.out, Below.refl _ _⟩
  case round =>
    clear HH
    obtain ⟨i, hi, rfl, hH, hb⟩ := hrel
    have hBd := HB.out
    have hbl := HBL.out
    by_cases hlt : i < k
    · have HN : Hid _ := number_any wr hH (by omega)
      have HM : Hid (∀ W, Calls Try.prog 54 #[.int .i64 ((y.recs.length + 1 : Nat) : Int), .int .i64 (i : Int), .int .i64 (n : Int)] W fun e w' => e = .returned (.agg (markA (y.recs.length + 1) i n)) ∧ Below W.heap.size W w') := fun W => mark_any (y.recs.length + 1) i n W (by omega) (by omega) hbl.2.2
      have HHH : Hid (Held (y.es L jb ++ (dmE L y.p s (wroteX x (y.recs.length + 1) y.next bs i) :: R)) wr ∧ Below L w wr) := ⟨hH, hb⟩
      have hlw : L ≤ wr.heap.size := jlow hH
      clear hH hb
      obtain ⟨num, hnum⟩ : ∃ num, num = y.recs.length + 1 := ⟨_, rfl⟩
      rw [← hnum] at HN HM
      have HNU : Hid (num = y.recs.length + 1) := hnum
      clear hnum hBd hbl
      go_wp2_with fail
      refine Calls.mono HN.out ?_
      rintro e w1 ⟨rfl, hw1⟩
      replace hw1 := hw1.symm
      subst hw1
      clear HN
      go_wp2_with fail
      refine Calls.mono (HM.out _) ?_
      rintro e w1 ⟨rfl, hb1⟩
      clear HM
      have hb1' : Below L wr w1 := hb1.mono hlw
      have h1 := HHH.out.1.more hb1
      have hR1 : Held R w1 := Held.drop (Held.tailR h1)
      have hby1 := HBY.out w1 (HHH.out.2.trans hb1') hR1
      have HP : Hid _ := part_any (place := i) w1 hby1 HBL.out.2.1 HBL.out.2.2 (by rw [← HKN.out]; exact hlt)
      have H1 : Hid (Held (y.es L jb ++ (dmE L y.p s (wroteX x (y.recs.length + 1) y.next bs i) :: R)) w1 ∧ Below L w w1) := ⟨h1, HHH.out.2.trans hb1'⟩
      clear hb1 hb1' h1 hR1 hby1 HHH hlw
      have e3 : markA num i n = ((markL num i n).map B).toArray := rfl
      rw [e3]
      clear e3
      go_wp2_with fail
      refine Calls.mono HP.out ?_
      rintro e w2 ⟨pv, rfl, hpb, hw2⟩
      replace hw2 := hw2.symm
      subst hw2
      clear HP
      have HSC : Hid _ := sector_any (m := markL num i n) w1 (markL_len _ _ _) hpb (pieceL_len bs i)
      clear hpb
      go_wp2_with fail
      refine Calls.mono HSC.out ?_
      rintro e w3 ⟨sv, rfl, hsr, hb3⟩
      clear HSC
      have hlw : L ≤ w1.heap.size := jlow H1.out.1
      have h3 := H1.out.1.more hb3
      have hb3' : Below L w w3 := H1.out.2.trans (hb3.mono hlw)
      have hd3 : DM L y.p s (wroteX x (y.recs.length + 1) y.next bs i) w3 := h3.all (dmE L y.p s (wroteX x (y.recs.length + 1) y.next bs i)) (by simp)
      have c0 : w3.cell? ⟨jb, 0, none⟩ = some (.pointer (some ⟨y.p, 0, none⟩)) := (jbox h3).cell 0
      have c2 : w3.cell? ⟨jb, 2, none⟩ = some (.int .i64 (y.next : Int)) := (jbox h3).cell 2
      obtain ⟨sao, sc, hsv, hsc⟩ := own_slice hsr
      have hx := HX.out i
      have hB := HB.out
      have hnp : ∀ ad k c, sv = .slice (some ad) k c → ad.block ≠ y.p := fun ad k c e => by
        have h5 : sv.ownBlock = some ad.block := by rw [e]; rfl
        have h6 := (ownsRow_lt hsr h5).1
        have h7 := (((h1d H1.out.1).lt (Or.inl rfl)).2 : y.p < w1.heap.size)
        omega
      have HWR : Hid (∀ W, Below w3.heap.size w3 W → Calls Try.prog 59 #[.pointer (some ⟨y.p, 0, none⟩), .int .i64 ((y.next : Int) + (i : Int)), sv] W fun e w' => e = .returned (.int .i64 0) ∧ DM L y.p s (wroteX x (y.recs.length + 1) y.next bs (i + 1)) w' ∧ Chg (down y.p s) w3 w') := fun W hW => by
        have h5 := write_whole (y.next + i) W (hd3.more hW) hx.1 (by rw [hx.2.1]; omega) (secJ_len _ _) ((own_by (by rw [secJ_len]; exact hsr)).keep hW) hnp (fun e => by rw [hx.2.2.1] at e; cases e) (by rw [hx.2.2.2.1]; exact hB.1) (by rw [hx.2.2.2.2]; omega)
        rw [show ((y.next + i : Nat) : Int) = (y.next : Int) + (i : Int) by omega] at h5
        refine h5.mono ?_
        rintro e w' ⟨k1, k2, k3⟩
        refine ⟨k1, ?_, ((Chg.ofBelow (down y.p s) hW).trans k3 (fun _ _ e => e))⟩
        have : wroteX x (y.recs.length + 1) y.next bs (i + 1) = ((wroteX x (y.recs.length + 1) y.next bs i).noted (y.next + i)).dec.put (y.next + i) 512 (secJ (markL (y.recs.length + 1) i bs.length) (pieceL bs i)) := rfl
        rw [this, HBL.out.1]
        rw [HNU.out] at k2
        exact k2
      have H3 : Hid (Held (y.es L jb ++ (dmE L y.p s (wroteX x (y.recs.length + 1) y.next bs i) :: R)) w3 ∧ Below L w w3 ∧ L ≤ w3.heap.size) := ⟨h3, hb3', Nat.le_trans hlw hb3.size⟩
      have hnx : y.next ≤ 65536 := by omega
      obtain ⟨nx, hnx'⟩ : ∃ nx, nx = y.next := ⟨_, rfl⟩
      have E9 : Hid (IntKind.i64.wrap ((nx : Int) + (i : Int)) = (y.next : Int) + (i : Int)) := by rw [Hid, IntKind.wrap_i64, hnx']; omega
      rw [← hnx'] at c2 hnx
      subst hsv
      clear H1 hsr hb3 h3 hb3' hd3 hx hB hnp hnx' hsc hlw
      go_wp2_with fail
      go_region_with (go_at_call 59; rw [E9.out]; refine (HWR.out _ (by first | exact Below.refl _ _ | exact (Below.refl _ _).drew)).mono ?_; rintro e w4 ⟨rfl, hd4, hc4⟩)
      all_goals
        have HN2 : Hid (Held (y.es L jb ++ (dmE L y.p s (wroteX x (y.recs.length + 1) y.next bs (i + 1)) :: R)) w4 ∧ Below L w w4) := ⟨held_disk H3.out.1 hd4 hc4, H3.out.2.1.trans (hc4.below H3.out.2.2 (fun k hk => ((h1d H3.out.1).lt hk).1))⟩
        clear hd4 hc4 HWR H3
        go_wp2_with fail
        go_roundw
        case rel => exact ⟨i + 1, by omega, by go_num, by first | exact ⟨HN2.out.1, HN2.out.2⟩ | exact ⟨HN2.out.1.drewN 1, below_dr HN2.out.2 1⟩⟩
        case measure => simp [intOf]; omega
    · have hin : ¬ ((i : Int) < (k : Int)) := by omega
      have hik : i = k := by omega
      rw [hik] at hH
      have hR : Held R wr := Held.drop (Held.tailR hH)
      have HCL : Hid _ := clone_any wr (HBY.out wr hb hR) hbl.2.2
      have HH : Hid (Held (y.es L jb ++ (dmE L y.p s (wroteX x (y.recs.length + 1) y.next bs k) :: R)) wr ∧ Below L w wr ∧ L ≤ wr.heap.size) := ⟨hH, hb, jlow hH⟩
      clear hH hb hR hik hBd hbl
      go_wp2_with fail
      refine Calls.mono HCL.out ?_
      rintro e w1 ⟨cv, rfl, hcr, hb1⟩
      clear HCL
      obtain ⟨co, cc, hcv, hcc⟩ := own_slice hcr
      subst hcv
      have h2 : Held (y.es L jb ++ (datE L (.slice co n cc, bs) :: dmE L y.p s (wroteX x (y.recs.length + 1) y.next bs k) :: R)) w1 := by
        have h3 : Held (datE L (.slice co n cc, bs) :: (y.es L jb ++ (dmE L y.p s (wroteX x (y.recs.length + 1) y.next bs k) :: R))) w1 := Held.fresh HH.out.1 hb1 (show w1.ownsRow L 5 1 (.slice co n cc) bs.length (bs.map B) by rw [HBL.out.1]; exact ownsRow_mono hcr HH.out.2.2) (fun k hk => (ownsRow_lt hcr hk).1)
        exact h3.perm List.perm_middle.symm
      have hB := HB.out
      have HA : Hid _ := add_any w1 h2 HBL.out.1 HBL.out.2.2 hB.2.2.1 (by omega)
      have H2 : Hid (Held (y.es L jb ++ (datE L (.slice co n cc, bs) :: dmE L y.p s (wroteX x (y.recs.length + 1) y.next bs k) :: R)) w1 ∧ Below L w w1) := ⟨h2, HH.out.2.1.trans (hb1.mono HH.out.2.2)⟩
      clear hcr hb1 h2 hB HH hcc
      go_wp2_with fail
      refine Calls.mono HA.out ?_
      rintro e w2 ⟨rfl, rv', h3, hc3⟩
      have HF : Hid (∃ rv' v', Held ((y.added rv' v' bs).es L jb ++ (dmE L y.p s (wroteX x (y.recs.length + 1) y.next bs k) :: R)) w2 ∧ Below L w w2) := ⟨rv', _, h3, H2.out.2.trans (Held.below2 H2.out.1 (jlow H2.out.1) hc3 (fun q hq => by
        rcases hq with e | e
        · exact ⟨boxE L jb y.cs 80, by simp [JV.es], e⟩
        · exact ⟨tailE L 38 y.rv y.recs.length (y.recs.map Prod.fst), by simp [JV.es], e⟩))⟩
      clear HA h3 hc3 H2
      go_wp2_with fail
      go_ret
      obtain ⟨rv', v', h4, h5⟩ := HF.out
      first
        | exact ⟨rfl, rv', v', h4, h5⟩
        | (refine ⟨rfl, rv', v', ?_, h5⟩; rw [← HKN.out]; exact h4)
end Go.Proofs.Ytjpdcahodmomgaa
