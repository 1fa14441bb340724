import Derived.Test.YtlajcaofpmjdlaaAgd
namespace Go.Proofs.Ytlajcaofpmjdlaa
open Go.RowKit Go.PlainAid
set_option linter.unusedVariables false
set_option linter.unusedSimpArgs false
section
variable {L pb : Nat} {S : SV} {dp rp lent : Value} {n : Nat} {R : List (Ent L)} {w : World}
theorem PH.keep0 {w' : World} (h : PH L pb S dp rp lent n R w) (hk : ∀ k : Nat, w'.heap[k]? = w.heap[k]?) : PH L pb S dp rp lent n R w' := Held.keep h (fun k _ => hk k)
theorem PH.addX {X : Ent L} {w' : World} (h : PH L pb S dp rp lent n R w) (hb : Below w.heap.size w w') (hP : X.P w') (hn : ∀ k, X.bl k → w.heap.size ≤ k) : PH L pb S dp rp lent n ([X] ++ R) w' := by
  have h1 : Held (X :: (boxE L pb (S.cs dp rp lent n) 66 :: (S.rows L ++ (S.data L ++ R)))) w' := Held.fresh h hb hP hn
  have e : boxE L pb (S.cs dp rp lent n) 66 :: (S.rows L ++ (S.data L ++ ([X] ++ R))) = (boxE L pb (S.cs dp rp lent n) 66 :: (S.rows L ++ S.data L)) ++ X :: R := by simp
  unfold PH
  rw [e]
  have e2 : boxE L pb (S.cs dp rp lent n) 66 :: (S.rows L ++ (S.data L ++ R)) = (boxE L pb (S.cs dp rp lent n) 66 :: (S.rows L ++ S.data L)) ++ R := by simp
  rw [e2] at h1
  exact h1.snd
theorem PH.more {w' : World} (h : PH L pb S dp rp lent n R w) (hb : Below w.heap.size w w') : PH L pb S dp rp lent n R w' := Held.more h hb
theorem PH.getR {X : Ent L} (h : PH L pb S dp rp lent n R w) (hX : X ∈ R) : X.P w := h.all X (by simp [hX])
theorem PH.c0 (h : PH L pb S dp rp lent n R w) : w.cell? ⟨pb, 0, none⟩ = some dp ∧ w.cell? ⟨pb, 1, none⟩ = some rp := ⟨(Held.boxB h).cell 0, (Held.boxB h).cell 1⟩
end
theorem row_int {w : World} {L m j : Nat} {v : Value} {zs : List Int} {z : Int} (h : w.ownsRow L 3 1 v m (zs.map I)) (hz : zs[j]? = some z) : ∃ g c, v = .slice (some ⟨g, 0, none⟩) m c ∧ w.cell? ⟨g, j, none⟩ = some (.int .i64 z) := by
  have hl : zs.length = m := by have := h.1; simpa using this
  have hj := (List.getElem?_eq_some_iff.1 hz).1
  rcases id h.2 with ⟨e, e0⟩ | ⟨g, c, cur, e, hrest⟩
  · omega
  · subst e
    refine ⟨g, c, rfl, ?_⟩
    have := h.cells (g := g) rfl j (I z) (by rw [List.getElem?_map, hz]; rfl)
    rwa [addr_add, Nat.zero_add] at this
section
variable {L pb p s rb : Nat} {S : SV} {lent fv lv : Value} {n : Nat} {x : DV} {r : RV} {R : List (Ent L)}
set_option maxRecDepth 100000 in
set_option maxHeartbeats 6400000 in
theorem traces_yes (w : World) (h : PH L pb S (.pointer (some ⟨p, 0, none⟩)) (.pointer (some ⟨rb, 0, none⟩)) lent n (dmE L p s x :: rdE L rb fv lv r :: R) w) (hk : S.Ok n) (hn : n ≤ 10000) (ha : AgD x r) (hw : r.log.length ≤ 1000) :
    Calls Try.prog 53 #[.pointer (some ⟨pb, 0, none⟩)] w fun e w' => ∃ S' : SV, e = .returned (.bool true) ∧ S'.Ok (n + 1) ∧ PH L pb S' (.pointer (some ⟨p, 0, none⟩)) (.pointer (some ⟨rb, 0, none⟩)) lent (n + 1) (dmE L p s x :: rdE L rb fv lv r :: R) w' ∧ Below L w w' := by
  obtain ⟨c0, c1⟩ := h.c0
  have hwx : x.writes ≤ 1000 := by rw [ha.wr]; exact hw
  have HT1 : Hid _ := trace_any w (h.getR (X := dmE L p s x) (List.mem_cons_self ..)) (by omega)
  have HP : Hid (PH L pb S (.pointer (some ⟨p, 0, none⟩)) (.pointer (some ⟨rb, 0, none⟩)) lent n (dmE L p s x :: rdE L rb fv lv r :: R) w) := h
  have HLW : Hid (L ≤ w.heap.size) := h.low
  have HAG : Hid (trL x = rtrL r) := ha.trace
  obtain ⟨m, hm⟩ : ∃ m, m = min x.writes 64 := ⟨_, rfl⟩
  have HML : Hid ((rtrL r).length = m) := by rw [Hid, ← ha.trace, trL_len, hm]
  have hm64 : m ≤ 64 := by omega
  rw [← hm] at HT1
  have HW : Hid (r.log.length ≤ 1000) := hw
  have HK1 : Hid (S.Ok (n + 1)) := hk.more (by omega)
  have HMN : Hid (S.mark < n + 1) := by have := hk.mkb; rw [Hid]; omega
  clear h hm ha hk hwx hw
  go_enter Try.func53, Try.ntmps53
  go_wp2_with fail
  refine Calls.mono HT1.out ?_
  rintro e w1 ⟨v1, rfl, hr1, hb1⟩
  clear HT1 c0
  rw [HAG.out] at hr1
  have hp1 := HP.out.more hb1
  have HT2 : Hid _ := rtrace_any w1 (hp1.getR (X := rdE L rb fv lv r) (List.mem_cons_of_mem _ (List.mem_cons_self ..))) (by have := HW.out; omega)
  have hpx := HP.out.addX (X := intE L (v1, rtrL r)) hb1 (show w1.ownsRow L 3 1 v1 (rtrL r).length ((rtrL r).map I) from by rw [HML.out]; exact ownsRow_mono hr1 HLW.out) (fun k hk => (ownsRow_lt hr1 hk).1)
  have HX1 : Hid (PH L pb S (.pointer (some ⟨p, 0, none⟩)) (.pointer (some ⟨rb, 0, none⟩)) lent n ([intE L (v1, rtrL r)] ++ dmE L p s x :: rdE L rb fv lv r :: R) w1 ∧ Below L w w1 ∧ L ≤ w1.heap.size) := ⟨hpx, hb1.mono HLW.out, Nat.le_trans HLW.out hb1.size⟩
  obtain ⟨vo, vc, hv1, _⟩ := own_slice hr1
  have c1 : w1.cell? ⟨pb, 1, none⟩ = some (.pointer (some ⟨rb, 0, none⟩)) := hp1.c0.2
  subst hv1
  clear hr1 hb1 hp1 hpx HP
  go_wp2_with fail
  refine Calls.mono HT2.out ?_
  rintro e w2 ⟨v2, rfl, hr2, hb2⟩
  clear HT2 c1
  rw [HML.out] at hr2
  have hp2 := HX1.out.1.more hb2
  have HX2 : Hid (PH L pb S (.pointer (some ⟨p, 0, none⟩)) (.pointer (some ⟨rb, 0, none⟩)) lent n ([intE L (.slice vo m vc, rtrL r)] ++ dmE L p s x :: rdE L rb fv lv r :: R) w2 ∧ Below L w w2) := ⟨hp2, HX1.out.2.1.trans (hb2.mono HX1.out.2.2)⟩
  have HR2 : Hid (w2.ownsRow w1.heap.size 3 1 v2 m ((rtrL r).map I)) := hr2
  obtain ⟨vo2, vc2, hv2, _⟩ := own_slice hr2
  have HV2 : Hid (v2 = .slice vo2 m vc2) := hv2
  subst hv2
  have hmm : ((m : Int) != (m : Int)) = false := by simp
  clear hr2 hb2 hp2 HX1
  go_wp2_with fail
  go_loopw [5] (fun s5 wr => ∃ i : Nat, i ≤ m ∧ s5 = .int .i64 (i : Int) ∧ ∃ q, wr = w2.drewN q) (fun s5 _ => m - (intOf s5).toNat)
  case atStart => exact ⟨0, by omega, rfl, 0, rfl⟩
  case round =>
    obtain ⟨i, hi, rfl, hq⟩ := hrel
    have HQ : Hid (∃ q, wr = w2.drewN q) := hq
    have hpr : PH L pb S (.pointer (some ⟨p, 0, none⟩)) (.pointer (some ⟨rb, 0, none⟩)) lent n ([intE L (.slice vo m vc, rtrL r)] ++ dmE L p s x :: rdE L rb fv lv r :: R) wr := by
      obtain ⟨q, e⟩ := hq
      rw [e]
      exact HX2.out.1.keep0 (fun _ => rfl)
    by_cases hlt : i < m
    · obtain ⟨z, hz⟩ : ∃ z, (rtrL r)[i]? = some z := ⟨(rtrL r)[i]'(by rw [HML.out]; exact hlt), List.getElem?_eq_getElem (by rw [HML.out]; exact hlt)⟩
      have hrw1 : wr.ownsRow L 3 1 (.slice vo m vc) (rtrL r).length ((rtrL r).map I) := hpr.getX
      rw [HML.out] at hrw1
      have hrw2 : wr.ownsRow w1.heap.size 3 1 (.slice vo2 m vc2) m ((rtrL r).map I) := by
        obtain ⟨q, e⟩ := hq
        rw [e]
        exact ownsRow_same HR2.out (fun _ _ => rfl)
      obtain ⟨g1, cc1, e1, k1⟩ := row_int hrw1 hz
      obtain ⟨g2, cc2, e2, k2⟩ := row_int hrw2 hz
      cases e1
      cases e2
      clear hpr hrw1 hrw2 hq hz
      go_wp2_with fail
      go_quiet (fail)
      go_wp2_with fail
      go_roundw
      case rel => exact ⟨i + 1, by omega, by go_num, by obtain ⟨q, e⟩ := HQ.out; exact ⟨_, by rw [e]; exact drewN2 _ _ _⟩⟩
      case measure => simp [intOf]; omega
    · have hin : ¬ ((i : Int) < (m : Int)) := by omega
      have hbr : Below L w wr := by
        obtain ⟨q, e⟩ := hq
        rw [e]
        exact ⟨HX2.out.2.os, HX2.out.2.tape, HX2.out.2.output, HX2.out.2.size, HX2.out.2.block⟩
      obtain ⟨c13, f13⟩ := hpr.c13
      have h1 := hpr.bump
      rw [show ((n + 1 : Nat) : Int) = (n : Int) + 1 by omega] at h1
      have hc1 : Below L wr (wr.setCell ⟨pb, 13, none⟩ (.int .i64 ((n : Int) + 1))) := Held.below2 hpr hpr.low (setCell_chg _ _ _ _) (fun k hk => ⟨_, List.mem_cons_self .., hk⟩)
      obtain ⟨w3, hw3⟩ : ∃ w3, w3 = wr.setCell ⟨pb, 13, none⟩ (.int .i64 ((n : Int) + 1)) := ⟨_, rfl⟩
      rw [← hw3] at h1 hc1
      obtain ⟨q3, hq3⟩ : ∃ q3 : Nat, q3 = (n + 1) % 3 := ⟨_, rfl⟩
      have hrem : ((n : Int) + 1).tmod 3 = (q3 : Int) := by rw [Int.tmod_eq_emod_of_nonneg (by omega)]; omega
      have hrem2 : ((n : Int) + 1) % 3 = (q3 : Int) := by omega
      have HB3 : Hid (Below L w w3) := hbr.trans hc1
      have HKI : Hid _ := h1.keepInts HK1.out HMN.out (by omega) HML.out (by omega)
      have hcase : q3 = 0 ∨ (¬ q3 = 0 ∧ S.ln.length < 100) ∨ (¬ q3 = 0 ∧ ¬ S.ln.length < 100) := by omega
      rcases hcase with h0 | ⟨h0, hy⟩ | ⟨h0, hy⟩
      · subst h0
        clear hpr h1 hc1 hq hbr hq3
        go_wp2_with fail
        rw [← hw3]
        clear hw3 c13 f13
        refine Calls.mono HKI.out ?_
        rintro e w4 ⟨S', rfl, hk4, h4, hb4⟩
        have HF : Hid (S'.Ok (n + 1) ∧ PH L pb S' (.pointer (some ⟨p, 0, none⟩)) (.pointer (some ⟨rb, 0, none⟩)) lent (n + 1) (dmE L p s x :: rdE L rb fv lv r :: R) w4 ∧ Below L w w4) := ⟨hk4, h4, HB3.out.trans hb4⟩
        clear HKI hk4 h4 hb4
        go_wp2_with fail
        go_ret
        first
          | exact ⟨S', rfl, HF.out.1, HF.out.2.1, HF.out.2.2⟩
          | exact ⟨rfl, S', HF.out.1, HF.out.2.1, HF.out.2.2⟩
      · have hrb : ((q3 : Int) == 0) = false := by simp; omega
        have hrc : ¬ ((q3 : Int) = 0) := by omega
        have HLI : Hid _ := h1.leaveInts HK1.out HML.out (by omega) hy
        clear hpr h1 hc1 hq hbr hq3 hy
        go_wp2_with fail
        rw [← hw3]
        clear hw3 c13 f13
        refine Calls.mono HLI.out ?_
        rintro e w4 ⟨S', rfl, hk4, h4, hb4⟩
        have HF : Hid (S'.Ok (n + 1) ∧ PH L pb S' (.pointer (some ⟨p, 0, none⟩)) (.pointer (some ⟨rb, 0, none⟩)) lent (n + 1) (dmE L p s x :: rdE L rb fv lv r :: R) w4 ∧ Below L w w4) := ⟨hk4, h4, HB3.out.trans hb4⟩
        clear HLI hk4 h4 hb4
        go_wp2_with fail
        go_ret
        first
          | exact ⟨S', rfl, HF.out.1, HF.out.2.1, HF.out.2.2⟩
          | exact ⟨rfl, S', HF.out.1, HF.out.2.1, HF.out.2.2⟩
      · have hrb : ((q3 : Int) == 0) = false := by simp; omega
        have hrc : ¬ ((q3 : Int) = 0) := by omega
        obtain ⟨lo, lc, hlv⟩ := tail_val (h1.all (tailE L 44 S.nv S.ln.length (S.ln.map Prod.fst)) (by simp [SV.rows]) : Tail w3 L 44 S.nv S.ln.length (S.ln.map Prod.fst))
        have HLI : Hid (Calls Try.prog 59 #[.pointer (some ⟨pb, 2, none⟩), .slice vo m vc] w3 fun e w' => e = .returned (.bool false) ∧ w' = w3) := leaveInts_no (n := S.ln.length) (lo := lo) (lc := lc) w3 (Held.boxB h1) (by show some S.nv = _; rw [hlv]) (by omega)
        clear hpr h1 hc1 hq hbr hq3 hy hlv
        go_wp2_with fail
        rw [← hw3]
        clear hw3 c13 f13
        refine Calls.mono HLI.out ?_
        rintro e w9 ⟨rfl, hw9⟩
        replace hw9 := hw9.symm
        subst hw9
        clear HLI
        go_wp2_with fail
        refine Calls.mono HKI.out ?_
        rintro e w4 ⟨S', rfl, hk4, h4, hb4⟩
        have HF : Hid (S'.Ok (n + 1) ∧ PH L pb S' (.pointer (some ⟨p, 0, none⟩)) (.pointer (some ⟨rb, 0, none⟩)) lent (n + 1) (dmE L p s x :: rdE L rb fv lv r :: R) w4 ∧ Below L w w4) := ⟨hk4, h4, HB3.out.trans hb4⟩
        clear HKI hk4 h4 hb4
        go_wp2_with fail
        go_ret
        first
          | exact ⟨S', rfl, HF.out.1, HF.out.2.1, HF.out.2.2⟩
          | exact ⟨rfl, S', HF.out.1, HF.out.2.1, HF.out.2.2⟩
end
end Go.Proofs.Ytlajcaofpmjdlaa
