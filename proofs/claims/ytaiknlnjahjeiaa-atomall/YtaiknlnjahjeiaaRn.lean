import Derived.Test.YtaiknlnjahjeiaaRn0
import Derived.Test.YtaiknlnjahjeiaaApa
import Derived.Deep.Cut
import Derived.Deep.CutBlock
import Derived.BigQuiet
namespace Go.Proofs.Ytaiknlnjahjeiaa
open Go.RowKit Go.PlainAid Go.MapKept
set_option linter.unusedVariables false
set_option linter.unusedSimpArgs false
theorem TD_tolds {L0 lb kb : Nat} {qs : List (Option PR)} {S : List RC} {bv : Value} {ts : List TD} {w : World} (h : Held (RU L0 lb kb qs S bv ts) w) : Held (boxE L0 kb #[bv] 87 :: rowE L0 100 3 bv ts.length (flatT ts) :: ts.flatMap (TD.ents L0)) w := by
  have hs : (boxE L0 kb #[bv] 87 :: rowE L0 100 3 bv ts.length (flatT ts) :: ts.flatMap (TD.ents L0)).Sublist (RU L0 lb kb qs S bv ts) := by
    unfold RU
    refine List.Sublist.cons _ (List.Sublist.cons _ (List.Sublist.cons_cons _ (List.Sublist.cons_cons _ ?_)))
    exact List.sublist_append_left _ _
  exact h.sub hs
theorem qs_get {qs : List (Option PR)} (h : qs.length = 3) {j : Nat} (hj : j ≤ 2) : ∃ q, qs[j]? = some q := ⟨_, List.getElem?_eq_getElem (by omega)⟩
theorem RowAt.step {W : World} {b off : Nat} {x : SA} (h : RowAt W b off x.row) : W.cell? ⟨b, off, none⟩ = some (.int .i64 x.kd) ∧ W.cell? ⟨b, off + 1, none⟩ = some (.int .i64 x.who) ∧ W.cell? ⟨b, off + 2, none⟩ = some (.int .i64 x.nn) ∧ W.cell? ⟨b, off + 3, none⟩ = some (.int .i64 x.k) ∧ W.cell? ⟨b, off + 4, none⟩ = some (.string ⟨x.n.toArray⟩) ∧ W.cell? ⟨b, off + 5, none⟩ = some (.int .i64 x.A) ∧ W.cell? ⟨b, off + 6, none⟩ = some (.int .i64 x.B) ∧ W.cell? ⟨b, off + 7, none⟩ = some (.int .i64 x.e0) ∧ W.cell? ⟨b, off + 8, none⟩ = some (.int .i64 x.e1) ∧ W.cell? ⟨b, off + 9, none⟩ = some (.int .i64 x.e2) ∧ W.cell? ⟨b, off + 10, none⟩ = some (.int .i64 x.ek) ∧ W.cell? ⟨b, off + 11, none⟩ = some (.string ⟨x.en.toArray⟩) ∧ W.cell? ⟨b, off + 12, none⟩ = some (.int .i64 x.eA) ∧ W.cell? ⟨b, off + 13, none⟩ = some (.int .i64 x.eB) ∧ W.cell? ⟨b, off + 14, none⟩ = some (.int .i64 x.er) ∧ W.cell? ⟨b, off + 15, none⟩ = some (.int .i64 x.va) := by
  refine ⟨by have := h 0 _ rfl; simpa using this, by have := h 1 _ rfl; simpa using this, by have := h 2 _ rfl; simpa using this, by have := h 3 _ rfl; simpa using this, by have := h 4 _ rfl; simpa using this, by have := h 5 _ rfl; simpa using this, by have := h 6 _ rfl; simpa using this, by have := h 7 _ rfl; simpa using this, by have := h 8 _ rfl; simpa using this, by have := h 9 _ rfl; simpa using this, by have := h 10 _ rfl; simpa using this, by have := h 11 _ rfl; simpa using this, by have := h 12 _ rfl; simpa using this, by have := h 13 _ rfl; simpa using this, by have := h 14 _ rfl; simpa using this, by have := h 15 _ rfl; simpa using this⟩
set_option maxRecDepth 100000 in
set_option maxHeartbeats 12800000 in
theorem run_any (ao : Option Addr) (KN cap : Nat) (os : List SA) (lo_ hi_ : Int) (w : World) (hl : os.length = KN)
    (hat : 0 < KN → ∃ b off, ao = some ⟨b, off, none⟩ ∧ ∀ i o, os[i]? = some o → RowAt w b (off + i * 16) o.row) (hok : ∀ o ∈ os, o.Ok) (hcm : KN ≤ maxLen) :
    Calls Try.prog 21 #[.slice ao KN cap, .int .i64 lo_, .int .i64 hi_] w fun e w' => e = .returned (.bool true) ∧ Below w.heap.size w w' := by
  unfold maxLen at hcm
  have HAT : Hid (0 < KN → ∃ b off, ao = some ⟨b, off, none⟩ ∧ ∀ i o, os[i]? = some o → RowAt w b (off + i * 16) o.row) := hat
  have HOKS : Hid (∀ o ∈ os, o.Ok) := hok
  have HLE : Hid (os.length = KN) := hl
  clear hat hok hl
  go_enter Try.func21, Try.ntmps21
  go_wp2_with fail
  refine Calls.mono (alive_any w) ?_
  rintro e9 w1 ⟨rfl, hb1⟩
  obtain ⟨lb, hlb⟩ : ∃ y, y = w1.heap.size := ⟨_, rfl⟩
  obtain ⟨X, hX⟩ : ∃ X, X = w1.alloc (.cells #[.pointer none, .pointer none, .pointer none] 71) := ⟨_, rfl⟩
  have hbX : Below w.heap.size w X := by rw [hX]; exact hb1.alloc hb1.size _
  have hLB : Blk X lb #[.pointer none, .pointer none, .pointer none] 71 := by rw [hX, hlb]; exact heap_alloc_new w1 _
  have HLB : Hid (Blk X lb #[.pointer none, .pointer none, .pointer none] 71 ∧ w.heap.size ≤ lb) := ⟨hLB, by rw [hlb]; exact hb1.size⟩
  have HBX : Hid (Below w.heap.size w X) := hbX
  clear hbX hLB hb1
  go_upto_region 3 with fail
  rw [← hX, ← hlb]
  clear hX hlb
  go_wp2_with fail
  refine Calls.mono (begun_any X) ?_
  rintro e9 X2 ⟨p0, kb, rfl, hst, hpo, hpl, hb2⟩
  obtain ⟨L0, hL0⟩ : ∃ y, y = w.heap.size := ⟨_, rfl⟩
  obtain ⟨hst1, hst2⟩ := hst L0 (by rw [hL0]; exact HBX.out.size)
  have hLB2 := HLB.out.1.below hb2 HLB.out.1.lt
  obtain ⟨Y, hY⟩ : ∃ Y, Y = X2.setCell ⟨lb, 0, none⟩ (.pointer (some ⟨p0.pb, 0, none⟩)) := ⟨_, rfl⟩
  have hcY : Chg (fun k => k = lb) X2 Y := by rw [hY]; exact setCell_chg _ _ _ _
  have hBY : Blk Y lb #[.pointer (some ⟨p0.pb, 0, none⟩), .pointer none, .pointer none] 71 := by rw [hY]; exact hLB2.set 0 _
  have hnlb : ∀ k, has (stE L0 kb p0 [] (.slice none 0 0) [] []) k → k ≠ lb := fun k hk e => by have := hst2 k hk; have := HLB.out.1.lt; omega
  have hstY := hst1.chg hcY (fun k hk e => hnlb k hk e)
  have HY : Hid (Held (RU L0 lb kb [some p0, none, none] [] (.slice none 0 0) []) Y) := by
    have h1 := hstY.add (e := boxE L0 lb (arrV [some p0, none, none]) 71) ⟨hBY, by rw [hL0]; exact HLB.out.2⟩ (fun k hk hh => hnlb k hh hk)
    refine h1.perm ?_
    have hpm := (ru_perm (L0 := L0) (lb := lb) (kb := kb) (S := []) (bv := .slice none 0 0) (ts := []) (qs := [some p0, none, none]) (i := 0) (p := p0) rfl).symm
    refine List.Perm.trans ?_ hpm
    have e1 : stE L0 kb p0 [] (.slice none 0 0) [] (boxE L0 lb (arrV [some p0, none, none]) 71 :: ([some p0, none, none].eraseIdx 0).flatMap (optE L0 kb)) = stE L0 kb p0 [] (.slice none 0 0) [] [] ++ [boxE L0 lb (arrV [some p0, none, none]) 71] := by simp [stE, optE]
    rw [e1]
    exact List.perm_append_comm (l₁ := [boxE L0 lb (arrV [some p0, none, none]) 71])
  have HQ0 : Hid (QOk 0 [some p0, none, none] []) := fun p hp => by simp at hp; rw [hp]; exact hpo
  have HBY : Hid (Below L0 w Y) := show Below L0 w Y from by rw [hL0]; exact (HBX.out.trans (hb2.mono HBX.out.size)).trans (hcY.below (Nat.le_trans HBX.out.size hb2.size) (fun k e => by rw [e]; exact HLB.out.2))
  have HL0 : Hid (L0 = w.heap.size) := hL0
  have y0 : Y.cell? ⟨lb, 0, none⟩ = some (.pointer (some ⟨p0.pb, 0, none⟩)) := hBY.cell 0
  have yb : Y.cell? ⟨p0.pb, 3, none⟩ = some (.pointer (some ⟨kb, 0, none⟩)) := (st_box hstY).1.cell 3
  have v0 : X2.cell? ⟨lb, 0, none⟩ = some (.pointer none) := hLB2.cell 0
  have f0 : X2.frozen? ⟨lb, 0, none⟩ = false := hLB2.frozen 0
  clear hst hst1 hst2 hLB2 hcY hBY hnlb hstY hpo hpl hb2 hL0
  go_upto_region 4 with fail
  rw [← hY]
  clear hY v0 f0 HLB HBX
  go_upto_block 0 with fail
  go_cut [10, 11, 12, 13, 14] from 31 to 104 (fun _ _ _ _ _ wc => ∃ qs S bv ts KK0, KK0 ≤ 300 ∧ Held (RU L0 lb kb qs S bv ts) wc ∧ QOk KK0 qs S ∧ qs.length = 3 ∧ TOk KK0 ts ∧ Below L0 w wc)
  case first =>
    clear y0 yb
    go_wp2_with fail
    go_loopw [10] (fun s10 wr => ∃ (i : Nat) (qs : List (Option PR)) (S : List RC) (bv : Value) (ts : List TD), i ≤ KN ∧ i ≤ 300 ∧ s10 = .int .i64 i ∧ Held (RU L0 lb kb qs S bv ts) wr ∧ QOk i qs S ∧ qs.length = 3 ∧ TOk i ts ∧ Below L0 w wr) (fun s10 _ => 300 - (intOf s10).toNat)
    case atStart => exact ⟨0, _, _, _, _, Nat.zero_le _, Nat.zero_le _, rfl, HY.out, HQ0.out, rfl, ⟨Nat.le_refl _, fun t ht => by cases ht⟩, HBY.out⟩
    case round =>
      obtain ⟨KK0, qs, S, bv, ts, hjK, hj3, rfl, hH, hQ, hq3, hT, hbw⟩ := hrel
      have HH : Hid (Held (RU L0 lb kb qs S bv ts) wr) := hH
      have HQO : Hid (QOk KK0 qs S) := hQ
      have HQL : Hid (qs.length = 3) := hq3
      have HT : Hid (TOk KK0 ts) := hT
      have HBW : Hid (Below L0 w wr) := hbw
      clear hH hQ hq3 hT hbw HY HQ0 HBY
      by_cases hlt : KK0 < KN ∧ KK0 < 300
      · obtain ⟨b, off, hao, hrow⟩ := HAT.out (by omega)
        subst hao
        have hjo : KK0 < os.length := by rw [HLE.out]; exact hlt.1
        have hr := hrow KK0 os[KK0] (List.getElem?_eq_getElem hjo)
        have hr2 : RowAt wr b (off + KK0 * 16) os[KK0].row := hr.below HBW.out (by rw [HL0.out]; exact hr.lt (by show 0 < 16; decide))
        have HXO : Hid (os[KK0].Ok) := HOKS.out os[KK0] (List.getElem_mem hjo)
        generalize os[KK0] = x at *
        obtain ⟨c0, c1, c2, c3, c4, c5, c6, c7, c8, c9, c10, c11, c12, c13, c14, c15⟩ := hr2.step
        have hlt1 := hlt.1
        have hlt2 := hlt.2
        clear hrow hr hlt hr2 hjo
        obtain ⟨sb, hsb⟩ : ∃ y, y = wr.heap.size := ⟨_, rfl⟩
        obtain ⟨w3, hw3⟩ : ∃ X, X = wr.alloc (.cells #[.int .i64 x.kd, .int .i64 x.who, .int .i64 x.nn, .int .i64 x.k, .string ⟨x.n.toArray⟩, .int .i64 x.A, .int .i64 x.B, .int .i64 x.e0, .int .i64 x.e1, .int .i64 x.e2, .int .i64 x.ek, .string ⟨x.en.toArray⟩, .int .i64 x.eA, .int .i64 x.eB, .int .i64 x.er, .int .i64 x.va] 78) := ⟨_, rfl⟩
        have hbX : Below wr.heap.size wr w3 := by rw [hw3]; exact (Below.refl _ _).alloc (Nat.le_refl _) _
        have HSB3 : Hid (Blk w3 sb #[.int .i64 x.kd, .int .i64 x.who, .int .i64 x.nn, .int .i64 x.k, .string ⟨x.n.toArray⟩, .int .i64 x.A, .int .i64 x.B, .int .i64 x.e0, .int .i64 x.e1, .int .i64 x.e2, .int .i64 x.ek, .string ⟨x.en.toArray⟩, .int .i64 x.eA, .int .i64 x.eB, .int .i64 x.er, .int .i64 x.va] 78) := show Blk w3 sb #[.int .i64 x.kd, .int .i64 x.who, .int .i64 x.nn, .int .i64 x.k, .string ⟨x.n.toArray⟩, .int .i64 x.A, .int .i64 x.B, .int .i64 x.e0, .int .i64 x.e1, .int .i64 x.e2, .int .i64 x.ek, .string ⟨x.en.toArray⟩, .int .i64 x.eA, .int .i64 x.eB, .int .i64 x.er, .int .i64 x.va] 78 from by rw [hw3, hsb]; exact heap_alloc_new wr _
        have HRU3 : Hid (Held (RU L0 lb kb qs S bv ts) w3) := HH.out.more hbX
        have HLL : Hid (L0 ≤ wr.heap.size) := show L0 ≤ wr.heap.size from by rw [HL0.out]; exact HBW.out.size
        have HBX3 : Hid (wr.heap.size ≤ w3.heap.size) := hbX.size
        have HB03 : Hid (Below L0 w w3) := HBW.out.trans (hbX.mono HLL.out)
        have d1 : w3.cell? ⟨sb, 1, none⟩ = some (.int .i64 x.who) := HSB3.out.cell 1
        clear hbX HH HBW
        go_upto_region 11 with fail
        rw [← hw3, ← hsb]
        clear hw3 hsb c0 c1 c2 c3 c4 c5 c6 c7 c8 c9 c10 c11 c12 c13 c14 c15
        go_wp2_with fail
        refine Calls.mono (within_02 x.who w3 HXO.out.who.1 HXO.out.who.2) ?_
        rintro e9 w9 ⟨j0, rfl, hj02, hw9⟩
        replace hw9 := hw9.symm
        subst hw9
        obtain ⟨q, hq⟩ := qs_get HQL.out hj02
        have HQJ : Hid (qs[j0]? = some q) := hq
        have hqc : w3.cell? ⟨lb, j0, none⟩ = some (ptrV q) := by rw [(ru_box HRU3.out).1.cell j0]; exact arr_at hq
        have c0 : w3.cell? ⟨sb, 0, none⟩ = some (.int .i64 x.kd) := HSB3.out.cell 0
        have HNEXT : Hid (∃ qs' S' bv' ts', Held (RU L0 lb kb qs' S' bv' ts') w3 ∧ QOk (KK0 + 1) qs' S' ∧ qs'.length = 3 ∧ TOk (KK0 + 1) ts' ∧ Below L0 w w3) := ⟨qs, S, bv, ts, HRU3.out, HQO.out.mono (Nat.le_succ _) (fun c hc => hc), HQL.out, HT.out.mono (Nat.le_succ _), HB03.out⟩
        clear hq d1
        have hj0c : (j0 : Int) < 3 := by omega
        cases q with
        | none =>
          have hqc2 : w3.cell? ⟨lb, j0, none⟩ = some (.pointer none) := hqc
          clear hqc
          go_upto_region 12 with fail
          refine wp_region_lit ?_
          refine withFrS (N := 122) rfl ?_
          intro f0 F0 hff
          have hs12 : f0 12 = Value.pointer none := hff 12
          have hs11 : f0 11 = Value.pointer (some ⟨sb, 0, none⟩) := hff 11
          have hs1 : f0 1 = Value.int .i64 lo_ := hff 1
          have hs2 : f0 2 = Value.int .i64 hi_ := hff 2
          clear hff
          refine syp F0 rfl (by omega) (wanted_none rfl) (v := Value.pointer none) (by simp only [execOp, (F0.eval 12 (by omega)).trans (show _ = Value.pointer none from by simp [upd, hs12, hs11, hs1, hs2])]; first | rfl | simp [go_sem]) fun F1 => ?_
          refine syp F1 rfl (by omega) (wanted_none rfl) (v := Value.bool true) (by simp only [execOp, (F1.eval 50 (by omega)).trans (show _ = Value.pointer none from by simp [upd, hs12, hs11, hs1, hs2])]; simp [go_sem, Act.eval]) fun F2 => ?_
          refine syp F2 rfl (by omega) (wanted_none rfl) (v := Value.bool true) (by simp only [execOp, (F2.eval 51 (by omega)).trans (show _ = Value.bool true from by simp [upd, hs12, hs11, hs1, hs2])]; first | rfl | simp [go_sem]) fun F3 => ?_
          refine snp F3 rfl (by omega) (want_no F3 rfl (e := 52) rfl (by omega) (show _ = Value.bool true from by simp [upd, hs12, hs11, hs1, hs2]) (by decide)) fun F4 => ?_
          refine snp F4 rfl (by omega) (want_no F4 rfl (e := 52) rfl (by omega) (show _ = Value.bool true from by simp [upd, hs12, hs11, hs1, hs2]) (by decide)) fun F5 => ?_
          refine snp F5 rfl (by omega) (want_no F5 rfl (e := 52) rfl (by omega) (show _ = Value.bool true from by simp [upd, hs12, hs11, hs1, hs2]) (by decide)) fun F6 => ?_
          refine snp F6 rfl (by omega) (want_no F6 rfl (e := 52) rfl (by omega) (show _ = Value.bool true from by simp [upd, hs12, hs11, hs1, hs2]) (by decide)) fun F7 => ?_
          refine snp F7 rfl (by omega) (want_not F7 rfl (e := 56) rfl (by omega) (show _ = undef from by simp [upd, hs12, hs11, hs1, hs2])) fun F8 => ?_
          refine snp F8 rfl (by omega) (want_not F8 rfl (e := 56) rfl (by omega) (show _ = undef from by simp [upd, hs12, hs11, hs1, hs2])) fun F9 => ?_
          refine snp F9 rfl (by omega) (want_not F9 rfl (e := 56) rfl (by omega) (show _ = undef from by simp [upd, hs12, hs11, hs1, hs2])) fun F10 => ?_
          refine snp F10 rfl (by omega) (want_no F10 rfl (e := 52) rfl (by omega) (show _ = Value.bool true from by simp [upd, hs12, hs11, hs1, hs2]) (by decide)) fun F11 => ?_
          refine snp F11 rfl (by omega) (want_no F11 rfl (e := 52) rfl (by omega) (show _ = Value.bool true from by simp [upd, hs12, hs11, hs1, hs2]) (by decide)) fun F12 => ?_
          refine snp F12 rfl (by omega) (want_not F12 rfl (e := 61) rfl (by omega) (show _ = undef from by simp [upd, hs12, hs11, hs1, hs2])) fun F13 => ?_
          refine snp F13 rfl (by omega) (want_not F13 rfl (e := 61) rfl (by omega) (show _ = undef from by simp [upd, hs12, hs11, hs1, hs2])) fun F14 => ?_
          refine snp F14 rfl (by omega) (want_not F14 rfl (e := 61) rfl (by omega) (show _ = undef from by simp [upd, hs12, hs11, hs1, hs2])) fun F15 => ?_
          refine snp F15 rfl (by omega) (want_not F15 rfl (e := 61) rfl (by omega) (show _ = undef from by simp [upd, hs12, hs11, hs1, hs2])) fun F16 => ?_
          refine snp F16 rfl (by omega) (want_not F16 rfl (e := 61) rfl (by omega) (show _ = undef from by simp [upd, hs12, hs11, hs1, hs2])) fun F17 => ?_
          refine snp F17 rfl (by omega) (want_not F17 rfl (e := 66) rfl (by omega) (show _ = undef from by simp [upd, hs12, hs11, hs1, hs2])) fun F18 => ?_
          refine snp F18 rfl (by omega) (want_not F18 rfl (e := 66) rfl (by omega) (show _ = undef from by simp [upd, hs12, hs11, hs1, hs2])) fun F19 => ?_
          refine snp F19 rfl (by omega) (want_not F19 rfl (e := 66) rfl (by omega) (show _ = undef from by simp [upd, hs12, hs11, hs1, hs2])) fun F20 => ?_
          refine snp F20 rfl (by omega) (want_not F20 rfl (e := 66) rfl (by omega) (show _ = undef from by simp [upd, hs12, hs11, hs1, hs2])) fun F21 => ?_
          refine snp F21 rfl (by omega) (want_not F21 rfl (e := 61) rfl (by omega) (show _ = undef from by simp [upd, hs12, hs11, hs1, hs2])) fun F22 => ?_
          refine snp F22 rfl (by omega) (want_no F22 rfl (e := 52) rfl (by omega) (show _ = Value.bool true from by simp [upd, hs12, hs11, hs1, hs2]) (by decide)) fun F23 => ?_
          refine syp F23 rfl (by omega) (wanted_none rfl) (v := Value.bool true) (by simp only [execOp, (F23.eval 52 (by omega)).trans (show _ = Value.bool true from by simp [upd, hs12, hs11, hs1, hs2])]; simp [go_sem, Act.eval]) fun F24 => ?_
          refine ⟨?_⟩
          clear F0 F1 F2 F3 F4 F5 F6 F7 F8 F9 F10 F11 F12 F13 F14 F15 F16 F17 F18 F19 F20 F21 F22 F23 F24 hs12 hs11 hs1 hs2 
          simp only [Act.put, List.setIfInBounds_toArray, List.set_cons_succ, List.set_cons_zero]
          clear c0 hqc2
          obtain ⟨qs', S', bv', ts', n1, n2, n3, n4, n5⟩ := HNEXT.out
          have N1 : Hid (Held (RU L0 lb kb qs' S' bv' ts') w3) := n1
          have N2 : Hid (QOk (KK0 + 1) qs' S') := n2
          have N3 : Hid (qs'.length = 3) := n3
          have N4 : Hid (TOk (KK0 + 1) ts') := n4
          have N5 : Hid (Below L0 w w3) := n5
          clear n1 n2 n3 n4 n5
          go_wp2_with fail
          go_roundw
          case rel => exact ⟨KK0 + 1, qs', S', bv', ts', by omega, by omega, by go_num, N1.out, N2.out, N3.out, N4.out, N5.out⟩
          case measure => simp [intOf]; omega
        | some p =>
          have hqc2 : w3.cell? ⟨lb, j0, none⟩ = some (.pointer (some ⟨p.pb, 0, none⟩)) := hqc
          have HPO : Hid (p.Ok KK0 S) := HQO.out p (List.mem_of_getElem? HQJ.out)
          have HST3 : Hid (Held (stE L0 kb p S bv ts (boxE L0 lb (arrV qs) 71 :: (qs.eraseIdx j0).flatMap (optE L0 kb))) w3) := ru_st HRU3.out HQJ.out
          clear hqc
          by_cases hA : x.kd < 2
          · go_upto_region 12 with fail
            refine wp_region_lit ?_
            refine withFrS (N := 122) rfl ?_
            intro f0 F0 hff
            have hs12 : f0 12 = Value.pointer (some ⟨p.pb, 0, none⟩) := hff 12
            have hs11 : f0 11 = Value.pointer (some ⟨sb, 0, none⟩) := hff 11
            have hs1 : f0 1 = Value.int .i64 lo_ := hff 1
            have hs2 : f0 2 = Value.int .i64 hi_ := hff 2
            clear hff
            refine syp F0 rfl (by omega) (wanted_none rfl) (v := Value.pointer (some ⟨p.pb, 0, none⟩)) (by simp only [execOp, (F0.eval 12 (by omega)).trans (show _ = Value.pointer (some ⟨p.pb, 0, none⟩) from by simp [upd, hs12, hs11, hs1, hs2])]; first | rfl | simp [go_sem]) fun F1 => ?_
            refine syp F1 rfl (by omega) (wanted_none rfl) (v := Value.bool false) (by simp only [execOp, (F1.eval 50 (by omega)).trans (show _ = Value.pointer (some ⟨p.pb, 0, none⟩) from by simp [upd, hs12, hs11, hs1, hs2])]; simp [go_sem, Act.eval]) fun F2 => ?_
            refine syp F2 rfl (by omega) (wanted_none rfl) (v := Value.bool false) (by simp only [execOp, (F2.eval 51 (by omega)).trans (show _ = Value.bool false from by simp [upd, hs12, hs11, hs1, hs2])]; first | rfl | simp [go_sem]) fun F3 => ?_
            refine syp F3 rfl (by omega) (want_yes F3 rfl (e := 52) rfl (by omega) (show _ = Value.bool false from by simp [upd, hs12, hs11, hs1, hs2])) (v := Value.pointer (some ⟨sb, 0, none⟩)) (by simp only [execOp, (F3.eval 11 (by omega)).trans (show _ = Value.pointer (some ⟨sb, 0, none⟩) from by simp [upd, hs12, hs11, hs1, hs2])]; simp [go_sem, Act.eval]) fun F4 => ?_
            refine syp F4 rfl (by omega) (want_yes F4 rfl (e := 52) rfl (by omega) (show _ = Value.bool false from by simp [upd, hs12, hs11, hs1, hs2])) (v := Value.int .i64 x.kd) (by simp only [execOp, (F4.eval 53 (by omega)).trans (show _ = Value.pointer (some ⟨sb, 0, none⟩) from by simp [upd, hs12, hs11, hs1, hs2])]; simp [go_sem, Act.eval, c0]) fun F5 => ?_
            refine syp F5 rfl (by omega) (want_yes F5 rfl (e := 52) rfl (by omega) (show _ = Value.bool false from by simp [upd, hs12, hs11, hs1, hs2])) (v := Value.bool false) (by simp only [execOp, (F5.eval 54 (by omega)).trans (show _ = Value.int .i64 x.kd from by simp [upd, hs12, hs11, hs1, hs2])]; simp [go_sem, Act.eval, hA]) fun F6 => ?_
            refine syp F6 rfl (by omega) (want_yes F6 rfl (e := 52) rfl (by omega) (show _ = Value.bool false from by simp [upd, hs12, hs11, hs1, hs2])) (v := Value.bool false) (by simp only [execOp, (F6.eval 55 (by omega)).trans (show _ = Value.bool false from by simp [upd, hs12, hs11, hs1, hs2])]; first | rfl | simp [go_sem]) fun F7 => ?_
            refine snp F7 rfl (by omega) (want_no F7 rfl (e := 56) rfl (by omega) (show _ = Value.bool false from by simp [upd, hs12, hs11, hs1, hs2]) (by decide)) fun F8 => ?_
            refine snp F8 rfl (by omega) (want_no F8 rfl (e := 56) rfl (by omega) (show _ = Value.bool false from by simp [upd, hs12, hs11, hs1, hs2]) (by decide)) fun F9 => ?_
            refine snp F9 rfl (by omega) (want_no F9 rfl (e := 56) rfl (by omega) (show _ = Value.bool false from by simp [upd, hs12, hs11, hs1, hs2]) (by decide)) fun F10 => ?_
            refine syp F10 rfl (by omega) (want_yes F10 rfl (e := 52) rfl (by omega) (show _ = Value.bool false from by simp [upd, hs12, hs11, hs1, hs2])) (v := Value.bool false) (by simp only [execOp, (F10.eval 56 (by omega)).trans (show _ = Value.bool false from by simp [upd, hs12, hs11, hs1, hs2])]; simp [go_sem, Act.eval]) fun F11 => ?_
            refine syp F11 rfl (by omega) (want_yes F11 rfl (e := 52) rfl (by omega) (show _ = Value.bool false from by simp [upd, hs12, hs11, hs1, hs2])) (v := Value.bool false) (by simp only [execOp, (F11.eval 60 (by omega)).trans (show _ = Value.bool false from by simp [upd, hs12, hs11, hs1, hs2])]; first | rfl | simp [go_sem]) fun F12 => ?_
            refine snp F12 rfl (by omega) (want_no F12 rfl (e := 61) rfl (by omega) (show _ = Value.bool false from by simp [upd, hs12, hs11, hs1, hs2]) (by decide)) fun F13 => ?_
            refine snp F13 rfl (by omega) (want_no F13 rfl (e := 61) rfl (by omega) (show _ = Value.bool false from by simp [upd, hs12, hs11, hs1, hs2]) (by decide)) fun F14 => ?_
            refine snp F14 rfl (by omega) (want_no F14 rfl (e := 61) rfl (by omega) (show _ = Value.bool false from by simp [upd, hs12, hs11, hs1, hs2]) (by decide)) fun F15 => ?_
            refine snp F15 rfl (by omega) (want_no F15 rfl (e := 61) rfl (by omega) (show _ = Value.bool false from by simp [upd, hs12, hs11, hs1, hs2]) (by decide)) fun F16 => ?_
            refine snp F16 rfl (by omega) (want_no F16 rfl (e := 61) rfl (by omega) (show _ = Value.bool false from by simp [upd, hs12, hs11, hs1, hs2]) (by decide)) fun F17 => ?_
            refine snp F17 rfl (by omega) (want_not F17 rfl (e := 66) rfl (by omega) (show _ = undef from by simp [upd, hs12, hs11, hs1, hs2])) fun F18 => ?_
            refine snp F18 rfl (by omega) (want_not F18 rfl (e := 66) rfl (by omega) (show _ = undef from by simp [upd, hs12, hs11, hs1, hs2])) fun F19 => ?_
            refine snp F19 rfl (by omega) (want_not F19 rfl (e := 66) rfl (by omega) (show _ = undef from by simp [upd, hs12, hs11, hs1, hs2])) fun F20 => ?_
            refine snp F20 rfl (by omega) (want_not F20 rfl (e := 66) rfl (by omega) (show _ = undef from by simp [upd, hs12, hs11, hs1, hs2])) fun F21 => ?_
            refine snp F21 rfl (by omega) (want_no F21 rfl (e := 61) rfl (by omega) (show _ = Value.bool false from by simp [upd, hs12, hs11, hs1, hs2]) (by decide)) fun F22 => ?_
            refine syp F22 rfl (by omega) (want_yes F22 rfl (e := 52) rfl (by omega) (show _ = Value.bool false from by simp [upd, hs12, hs11, hs1, hs2])) (v := Value.bool false) (by simp only [execOp, (F22.eval 61 (by omega)).trans (show _ = Value.bool false from by simp [upd, hs12, hs11, hs1, hs2])]; simp [go_sem, Act.eval]) fun F23 => ?_
            refine syp F23 rfl (by omega) (wanted_none rfl) (v := Value.bool false) (by simp only [execOp, (F23.eval 52 (by omega)).trans (show _ = Value.bool false from by simp [upd, hs12, hs11, hs1, hs2]), (F23.eval 72 (by omega)).trans (show _ = Value.bool false from by simp [upd, hs12, hs11, hs1, hs2])]; simp [go_sem, Act.eval]) fun F24 => ?_
            refine ⟨?_⟩
            clear F0 F1 F2 F3 F4 F5 F6 F7 F8 F9 F10 F11 F12 F13 F14 F15 F16 F17 F18 F19 F20 F21 F22 F23 F24 hs12 hs11 hs1 hs2 
            simp only [Act.put, List.setIfInBounds_toArray, List.set_cons_succ, List.set_cons_zero]
            have hk7 : x.kd ≠ 5 := by omega
            have hk6 : (x.kd == 5) = false := by simpa using hk7
            clear hk7
            have HPL : Hid _ := played_any x w3 HST3.out (Nat.le_trans HLL.out HBX3.out) HPO.out HT.out (show KK0 ≤ 90000 by omega) HXO.out
            have d1 : w3.cell? ⟨sb, 1, none⟩ = some (.int .i64 x.who) := HSB3.out.cell 1
            have d2 : w3.cell? ⟨sb, 2, none⟩ = some (.int .i64 x.nn) := HSB3.out.cell 2
            have d3 : w3.cell? ⟨sb, 3, none⟩ = some (.int .i64 x.k) := HSB3.out.cell 3
            have d4 : w3.cell? ⟨sb, 4, none⟩ = some (.string ⟨x.n.toArray⟩) := HSB3.out.cell 4
            have d5 : w3.cell? ⟨sb, 5, none⟩ = some (.int .i64 x.A) := HSB3.out.cell 5
            have d6 : w3.cell? ⟨sb, 6, none⟩ = some (.int .i64 x.B) := HSB3.out.cell 6
            have d7 : w3.cell? ⟨sb, 7, none⟩ = some (.int .i64 x.e0) := HSB3.out.cell 7
            have d8 : w3.cell? ⟨sb, 8, none⟩ = some (.int .i64 x.e1) := HSB3.out.cell 8
            have d9 : w3.cell? ⟨sb, 9, none⟩ = some (.int .i64 x.e2) := HSB3.out.cell 9
            have d10 : w3.cell? ⟨sb, 10, none⟩ = some (.int .i64 x.ek) := HSB3.out.cell 10
            have d11 : w3.cell? ⟨sb, 11, none⟩ = some (.string ⟨x.en.toArray⟩) := HSB3.out.cell 11
            have d12 : w3.cell? ⟨sb, 12, none⟩ = some (.int .i64 x.eA) := HSB3.out.cell 12
            have d13 : w3.cell? ⟨sb, 13, none⟩ = some (.int .i64 x.eB) := HSB3.out.cell 13
            have d14 : w3.cell? ⟨sb, 14, none⟩ = some (.int .i64 x.er) := HSB3.out.cell 14
            have d15 : w3.cell? ⟨sb, 15, none⟩ = some (.int .i64 x.va) := HSB3.out.cell 15
            go_wp2_with fail
            refine Calls.mono HPL.out ?_
            rintro e9 w5 ⟨p', S', bv', ts', rfl, h1, h2, h3, h4, h5, h6⟩
            have N1 : Hid (Held (RU L0 lb kb (qs.set j0 (some p')) S' bv' ts') w5) := st_ru HQJ.out h3 h1
            have N2 : Hid (QOk (KK0 + 1) (qs.set j0 (some p')) S') := (HQO.out.mono (Nat.le_succ _) h4).set h2
            have N3 : Hid ((qs.set j0 (some p')).length = 3) := show (qs.set j0 (some p')).length = 3 from by rw [List.length_set]; exact HQL.out
            have N4 : Hid (TOk (KK0 + 1) ts') := h5
            have N5 : Hid (Below L0 w w5) := HB03.out.trans h6
            clear h1 h2 h3 h4 h5 h6 HPL c0 hqc2 d1 d2 d3 d4 d5 d6 d7 d8 d9 d10 d11 d12 d13 d14 d15
            go_wp2_with fail
            go_roundw
            case rel => exact ⟨KK0 + 1, _, S', bv', ts', by omega, by omega, by go_num, N1.out, N2.out, N3.out, N4.out, N5.out⟩
            case measure => simp [intOf]; omega
          by_cases hB : 4 < x.kd
          · go_upto_region 12 with fail
            refine wp_region_lit ?_
            refine withFrS (N := 122) rfl ?_
            intro f0 F0 hff
            have hs12 : f0 12 = Value.pointer (some ⟨p.pb, 0, none⟩) := hff 12
            have hs11 : f0 11 = Value.pointer (some ⟨sb, 0, none⟩) := hff 11
            have hs1 : f0 1 = Value.int .i64 lo_ := hff 1
            have hs2 : f0 2 = Value.int .i64 hi_ := hff 2
            clear hff
            refine syp F0 rfl (by omega) (wanted_none rfl) (v := Value.pointer (some ⟨p.pb, 0, none⟩)) (by simp only [execOp, (F0.eval 12 (by omega)).trans (show _ = Value.pointer (some ⟨p.pb, 0, none⟩) from by simp [upd, hs12, hs11, hs1, hs2])]; first | rfl | simp [go_sem]) fun F1 => ?_
            refine syp F1 rfl (by omega) (wanted_none rfl) (v := Value.bool false) (by simp only [execOp, (F1.eval 50 (by omega)).trans (show _ = Value.pointer (some ⟨p.pb, 0, none⟩) from by simp [upd, hs12, hs11, hs1, hs2])]; simp [go_sem, Act.eval]) fun F2 => ?_
            refine syp F2 rfl (by omega) (wanted_none rfl) (v := Value.bool false) (by simp only [execOp, (F2.eval 51 (by omega)).trans (show _ = Value.bool false from by simp [upd, hs12, hs11, hs1, hs2])]; first | rfl | simp [go_sem]) fun F3 => ?_
            refine syp F3 rfl (by omega) (want_yes F3 rfl (e := 52) rfl (by omega) (show _ = Value.bool false from by simp [upd, hs12, hs11, hs1, hs2])) (v := Value.pointer (some ⟨sb, 0, none⟩)) (by simp only [execOp, (F3.eval 11 (by omega)).trans (show _ = Value.pointer (some ⟨sb, 0, none⟩) from by simp [upd, hs12, hs11, hs1, hs2])]; simp [go_sem, Act.eval]) fun F4 => ?_
            refine syp F4 rfl (by omega) (want_yes F4 rfl (e := 52) rfl (by omega) (show _ = Value.bool false from by simp [upd, hs12, hs11, hs1, hs2])) (v := Value.int .i64 x.kd) (by simp only [execOp, (F4.eval 53 (by omega)).trans (show _ = Value.pointer (some ⟨sb, 0, none⟩) from by simp [upd, hs12, hs11, hs1, hs2])]; simp [go_sem, Act.eval, c0]) fun F5 => ?_
            refine syp F5 rfl (by omega) (want_yes F5 rfl (e := 52) rfl (by omega) (show _ = Value.bool false from by simp [upd, hs12, hs11, hs1, hs2])) (v := Value.bool true) (by simp only [execOp, (F5.eval 54 (by omega)).trans (show _ = Value.int .i64 x.kd from by simp [upd, hs12, hs11, hs1, hs2])]; simp [go_sem, Act.eval, hA]) fun F6 => ?_
            refine syp F6 rfl (by omega) (want_yes F6 rfl (e := 52) rfl (by omega) (show _ = Value.bool false from by simp [upd, hs12, hs11, hs1, hs2])) (v := Value.bool true) (by simp only [execOp, (F6.eval 55 (by omega)).trans (show _ = Value.bool true from by simp [upd, hs12, hs11, hs1, hs2])]; first | rfl | simp [go_sem]) fun F7 => ?_
            refine syp F7 rfl (by omega) (want_yes F7 rfl (e := 56) rfl (by omega) (show _ = Value.bool true from by simp [upd, hs12, hs11, hs1, hs2])) (v := Value.pointer (some ⟨sb, 0, none⟩)) (by simp only [execOp, (F7.eval 11 (by omega)).trans (show _ = Value.pointer (some ⟨sb, 0, none⟩) from by simp [upd, hs12, hs11, hs1, hs2])]; simp [go_sem, Act.eval]) fun F8 => ?_
            refine syp F8 rfl (by omega) (want_yes F8 rfl (e := 56) rfl (by omega) (show _ = Value.bool true from by simp [upd, hs12, hs11, hs1, hs2])) (v := Value.int .i64 x.kd) (by simp only [execOp, (F8.eval 57 (by omega)).trans (show _ = Value.pointer (some ⟨sb, 0, none⟩) from by simp [upd, hs12, hs11, hs1, hs2])]; simp [go_sem, Act.eval, c0]) fun F9 => ?_
            refine syp F9 rfl (by omega) (want_yes F9 rfl (e := 56) rfl (by omega) (show _ = Value.bool true from by simp [upd, hs12, hs11, hs1, hs2])) (v := Value.bool false) (by simp only [execOp, (F9.eval 58 (by omega)).trans (show _ = Value.int .i64 x.kd from by simp [upd, hs12, hs11, hs1, hs2])]; simp [go_sem, Act.eval, hB]) fun F10 => ?_
            refine syp F10 rfl (by omega) (want_yes F10 rfl (e := 52) rfl (by omega) (show _ = Value.bool false from by simp [upd, hs12, hs11, hs1, hs2])) (v := Value.bool false) (by simp only [execOp, (F10.eval 56 (by omega)).trans (show _ = Value.bool true from by simp [upd, hs12, hs11, hs1, hs2]), (F10.eval 59 (by omega)).trans (show _ = Value.bool false from by simp [upd, hs12, hs11, hs1, hs2])]; simp [go_sem, Act.eval]) fun F11 => ?_
            refine syp F11 rfl (by omega) (want_yes F11 rfl (e := 52) rfl (by omega) (show _ = Value.bool false from by simp [upd, hs12, hs11, hs1, hs2])) (v := Value.bool false) (by simp only [execOp, (F11.eval 60 (by omega)).trans (show _ = Value.bool false from by simp [upd, hs12, hs11, hs1, hs2])]; first | rfl | simp [go_sem]) fun F12 => ?_
            refine snp F12 rfl (by omega) (want_no F12 rfl (e := 61) rfl (by omega) (show _ = Value.bool false from by simp [upd, hs12, hs11, hs1, hs2]) (by decide)) fun F13 => ?_
            refine snp F13 rfl (by omega) (want_no F13 rfl (e := 61) rfl (by omega) (show _ = Value.bool false from by simp [upd, hs12, hs11, hs1, hs2]) (by decide)) fun F14 => ?_
            refine snp F14 rfl (by omega) (want_no F14 rfl (e := 61) rfl (by omega) (show _ = Value.bool false from by simp [upd, hs12, hs11, hs1, hs2]) (by decide)) fun F15 => ?_
            refine snp F15 rfl (by omega) (want_no F15 rfl (e := 61) rfl (by omega) (show _ = Value.bool false from by simp [upd, hs12, hs11, hs1, hs2]) (by decide)) fun F16 => ?_
            refine snp F16 rfl (by omega) (want_no F16 rfl (e := 61) rfl (by omega) (show _ = Value.bool false from by simp [upd, hs12, hs11, hs1, hs2]) (by decide)) fun F17 => ?_
            refine snp F17 rfl (by omega) (want_not F17 rfl (e := 66) rfl (by omega) (show _ = undef from by simp [upd, hs12, hs11, hs1, hs2])) fun F18 => ?_
            refine snp F18 rfl (by omega) (want_not F18 rfl (e := 66) rfl (by omega) (show _ = undef from by simp [upd, hs12, hs11, hs1, hs2])) fun F19 => ?_
            refine snp F19 rfl (by omega) (want_not F19 rfl (e := 66) rfl (by omega) (show _ = undef from by simp [upd, hs12, hs11, hs1, hs2])) fun F20 => ?_
            refine snp F20 rfl (by omega) (want_not F20 rfl (e := 66) rfl (by omega) (show _ = undef from by simp [upd, hs12, hs11, hs1, hs2])) fun F21 => ?_
            refine snp F21 rfl (by omega) (want_no F21 rfl (e := 61) rfl (by omega) (show _ = Value.bool false from by simp [upd, hs12, hs11, hs1, hs2]) (by decide)) fun F22 => ?_
            refine syp F22 rfl (by omega) (want_yes F22 rfl (e := 52) rfl (by omega) (show _ = Value.bool false from by simp [upd, hs12, hs11, hs1, hs2])) (v := Value.bool false) (by simp only [execOp, (F22.eval 61 (by omega)).trans (show _ = Value.bool false from by simp [upd, hs12, hs11, hs1, hs2])]; simp [go_sem, Act.eval]) fun F23 => ?_
            refine syp F23 rfl (by omega) (wanted_none rfl) (v := Value.bool false) (by simp only [execOp, (F23.eval 52 (by omega)).trans (show _ = Value.bool false from by simp [upd, hs12, hs11, hs1, hs2]), (F23.eval 72 (by omega)).trans (show _ = Value.bool false from by simp [upd, hs12, hs11, hs1, hs2])]; simp [go_sem, Act.eval]) fun F24 => ?_
            refine ⟨?_⟩
            clear F0 F1 F2 F3 F4 F5 F6 F7 F8 F9 F10 F11 F12 F13 F14 F15 F16 F17 F18 F19 F20 F21 F22 F23 F24 hs12 hs11 hs1 hs2 
            simp only [Act.put, List.setIfInBounds_toArray, List.set_cons_succ, List.set_cons_zero]
            by_cases hk5 : x.kd = 5
            · replace c0 : w3.cell? ⟨sb, 0, none⟩ = some (.int .i64 5) := by rw [c0, hk5]
              clear hk5 hB hA
              have HCP : Hid _ := copy_any w3 (st_am HST3.out).1
              have pc0 : w3.cell? ⟨p.pb, 0, none⟩ = some (.pointer (some ⟨p.ab, 0, none⟩)) := (st_box HST3.out).1.cell 0
              go_wp2_with fail
              refine Calls.mono HCP.out ?_
              rintro e9 w5 ⟨ab2, mb2, L2, rfl, hA2, hcp, hlo, hb5⟩
              have HB35 : Hid (Below w3.heap.size w3 w5) := hb5
              have HST : Hid (Held (stE L0 kb p S bv ts (boxE L0 lb (arrV qs) 71 :: (qs.eraseIdx j0).flatMap (optE L0 kb))) w5) := HST3.out.more hb5
              have HAM2 : Hid (AM ab2 mb2 L2 w5 ∧ ∀ k, ownB ab2 mb2 L2 k → w3.heap.size ≤ k ∧ k < w5.heap.size) := ⟨hA2, fun k hk => ⟨by rcases hk with rfl | rfl | ⟨q, hq, hqb⟩; exact hlo.1; exact hlo.2.1; exact hlo.2.2 q hq k hqb, hA2.own_lt hk⟩⟩
              have HEQ : Hid (Eqv p.L L2) := hcp.eqv (st_am HST3.out).1.kd
              have HLEN : Hid (L2.length ≤ KK0) := show L2.length ≤ KK0 from by obtain ⟨D, hp, hc⟩ := hcp; have h1 := congrArg List.length hc; simp at h1; rw [h1, hp.length_eq]; exact HPO.out.ll
              have HSB : Hid (Blk w5 sb #[.int .i64 x.kd, .int .i64 x.who, .int .i64 x.nn, .int .i64 x.k, .string ⟨x.n.toArray⟩, .int .i64 x.A, .int .i64 x.B, .int .i64 x.e0, .int .i64 x.e1, .int .i64 x.e2, .int .i64 x.ek, .string ⟨x.en.toArray⟩, .int .i64 x.eA, .int .i64 x.eB, .int .i64 x.er, .int .i64 x.va] 78) := HSB3.out.below hb5 HSB3.out.lt
              have HPB : Hid (Blk w5 p.pb (p.cs kb) 76) := (st_box HST.out).1
              have HB5d : Hid (Below w5.heap.size w5 ({ w5 with drawn := w5.drawn + 1 } : World)) := Below.drew (Below.refl _ _)
              obtain ⟨w0, hw0⟩ : ∃ y, y = w := ⟨_, rfl⟩
              have HB03' := HB03
              clear hA2 hcp hlo hb5 HCP pc0 c0 hqc2 hw0
              go_wp2_with fail
              first | rename_i KK hKK | skip
              try rw [show ∀ a : Act, a.put none undef = a from fun _ => rfl]
              refine wp_region_mix (fun wq => Blk wq sb #[.int .i64 x.kd, .int .i64 x.who, .int .i64 x.nn, .int .i64 x.k, .string ⟨x.n.toArray⟩, .int .i64 x.A, .int .i64 x.B, .int .i64 x.e0, .int .i64 x.e1, .int .i64 x.e2, .int .i64 x.ek, .string ⟨x.en.toArray⟩, .int .i64 x.eA, .int .i64 x.eB, .int .i64 x.er, .int .i64 x.va] 78 ∧ Blk wq p.pb (p.cs kb) 76) (fun i => i == 2 || i == 8 || i == 14 || i == 16) 16 (by kernel_rfl) rfl (by kernel_rfl) (by kernel_rfl) (by kernel_rfl) ?_
              refine withFrP (N := 122) rfl ?_
              intro f0 F0 hff
              have ee11 : f0 11 = Value.pointer (some ⟨sb, 0, none⟩) := hff 11
              have ee13 : f0 13 = Value.pointer (some ⟨ab2, 0, none⟩) := hff 13
              have ee12 : f0 12 = Value.pointer (some ⟨p.pb, 0, none⟩) := hff 12
              have ee8 : f0 8 = Value.pointer (some ⟨lb, 0, none⟩) := hff 8
              clear hff
              have HCC : (fun wq => Blk wq sb #[.int .i64 x.kd, .int .i64 x.who, .int .i64 x.nn, .int .i64 x.k, .string ⟨x.n.toArray⟩, .int .i64 x.A, .int .i64 x.B, .int .i64 x.e0, .int .i64 x.e1, .int .i64 x.e2, .int .i64 x.ek, .string ⟨x.en.toArray⟩, .int .i64 x.eA, .int .i64 x.eB, .int .i64 x.er, .int .i64 x.va] 78 ∧ Blk wq p.pb (p.cs kb) 76) (({ w5 with drawn := w5.drawn + 1 } : World)) := ⟨HSB.out, HPB.out⟩
              refine lyp F0 rfl HCC rfl (by omega) (wanted_none rfl) (v := Value.pointer (some ⟨sb, 2, none⟩)) (fun wr hwr => by simp only [execOp, (F0.eval 11 (by omega)).trans (show _ = Value.pointer (some ⟨sb, 0, none⟩) from by simp [upd, ee11, ee13, ee12, ee8])]; simp [go_sem]) fun F1 => ?_
              refine lyp F1 rfl HCC rfl (by omega) (wanted_none rfl) (v := Value.int .i64 x.nn) (fun wr hwr => by simp only [execOp, (F1.eval 84 (by omega)).trans (show _ = Value.pointer (some ⟨sb, 2, none⟩) from by simp [upd, ee11, ee13, ee12, ee8])]; simp [go_sem, show wr.cell? ⟨sb, 2, none⟩ = some (.int .i64 x.nn) from hwr.1.cell 2]) fun F2 => ?_
              refine lcp F2 rfl HCC rfl (by omega) (wanted_none rfl) (g := 11) (args := #[Value.int .i64 x.nn, Value.int .i64 0, Value.int .i64 2]) (by simp only [execOp, resolve, invoke, List.map_toArray, List.map_cons, List.map_nil, (F2.eval 85 (by omega)).trans (show _ = Value.int .i64 x.nn from by simp [upd, ee11, ee13, ee12, ee8])]; simp [go_sem, Act.eval]) (within_02 x.nn (({ w5 with drawn := w5.drawn + 1 } : World)) HXO.out.nn.1 HXO.out.nn.2) ?_
              rintro e9 w9 ⟨j, rfl, hj2, hw9⟩
              replace hw9 := hw9.symm
              subst hw9
              refine ⟨_, rfl, fun F3 => ?_⟩
              refine lyp F3 rfl HCC rfl (by omega) (wanted_none rfl) (v := Value.pointer (some ⟨ab2, 0, none⟩)) (fun wr hwr => by simp only [execOp, (F3.eval 13 (by omega)).trans (show _ = Value.pointer (some ⟨ab2, 0, none⟩) from by simp [upd, ee11, ee13, ee12, ee8])]; first | rfl | simp [go_sem]) fun F4 => ?_
              refine lyp F4 rfl HCC rfl (by omega) (wanted_none rfl) (v := Value.pointer (some ⟨p.pb, 0, none⟩)) (fun wr hwr => by simp only [execOp, (F4.eval 12 (by omega)).trans (show _ = Value.pointer (some ⟨p.pb, 0, none⟩) from by simp [upd, ee11, ee13, ee12, ee8])]; first | rfl | simp [go_sem]) fun F5 => ?_
              refine lyp F5 rfl HCC rfl (by omega) (wanted_none rfl) (v := Value.pointer (some ⟨p.pb, 0, none⟩)) (fun wr hwr => by simp only [execOp, (F5.eval 88 (by omega)).trans (show _ = Value.pointer (some ⟨p.pb, 0, none⟩) from by simp [upd, ee11, ee13, ee12, ee8])]; simp [go_sem]) fun F6 => ?_
              refine lyp F6 rfl HCC rfl (by omega) (wanted_none rfl) (v := Value.pointer (some ⟨p.pb, 1, none⟩)) (fun wr hwr => by simp only [execOp, (F6.eval 89 (by omega)).trans (show _ = Value.pointer (some ⟨p.pb, 0, none⟩) from by simp [upd, ee11, ee13, ee12, ee8])]; simp [go_sem]) fun F7 => ?_
              refine lyp F7 rfl HCC rfl (by omega) (wanted_none rfl) (v := Value.pointer (some ⟨p.rb, 0, none⟩)) (fun wr hwr => by simp only [execOp, (F7.eval 90 (by omega)).trans (show _ = Value.pointer (some ⟨p.pb, 1, none⟩) from by simp [upd, ee11, ee13, ee12, ee8])]; simp [go_sem, show wr.cell? ⟨p.pb, 1, none⟩ = some (.pointer (some ⟨p.rb, 0, none⟩)) from hwr.2.cell 1]) fun F8 => ?_
              refine lcp F8 rfl HCC rfl (by omega) (wanted_none rfl) (g := 26) (args := #[Value.pointer (some ⟨p.rb, 0, none⟩)]) (by simp only [execOp, resolve, invoke, List.map_toArray, List.map_cons, List.map_nil, (F8.eval 91 (by omega)).trans (show _ = Value.pointer (some ⟨p.rb, 0, none⟩) from by simp [upd, ee11, ee13, ee12, ee8])]; simp [go_sem, Act.eval]) (rcopy_any (({ w5 with drawn := w5.drawn + 1 } : World)) ((st_rm HST.out).1.more HB5d.out) ((st_oks HST.out HPO.out).more HB5d.out) (show KK0 ≤ 100000 by omega)) ?_
              rintro e9 w6 ⟨tb, tv, rfl, hT, htb, hb6⟩
              refine ⟨_, rfl, fun F9 => ?_⟩
              have HB6 : Hid (Below w5.heap.size w5 w6) := (Below.drew (Below.refl w5.heap.size w5)).trans hb6
              have HC6 : (fun wq => Blk wq sb #[.int .i64 x.kd, .int .i64 x.who, .int .i64 x.nn, .int .i64 x.k, .string ⟨x.n.toArray⟩, .int .i64 x.A, .int .i64 x.B, .int .i64 x.e0, .int .i64 x.e1, .int .i64 x.e2, .int .i64 x.ek, .string ⟨x.en.toArray⟩, .int .i64 x.eA, .int .i64 x.eB, .int .i64 x.er, .int .i64 x.va] 78 ∧ Blk wq p.pb (p.cs kb) 76) w6 := ⟨HSB.out.below HB6.out HSB.out.lt, HPB.out.below HB6.out HPB.out.lt⟩
              refine lyp F9 rfl HC6 rfl (by omega) (wanted_none rfl) (v := Value.pointer (some ⟨p.pb, 0, none⟩)) (fun wr hwr => by simp only [execOp, (F9.eval 12 (by omega)).trans (show _ = Value.pointer (some ⟨p.pb, 0, none⟩) from by simp [upd, ee11, ee13, ee12, ee8])]; first | rfl | simp [go_sem]) fun F10 => ?_
              refine lyp F10 rfl HC6 rfl (by omega) (wanted_none rfl) (v := Value.pointer (some ⟨p.pb, 0, none⟩)) (fun wr hwr => by simp only [execOp, (F10.eval 93 (by omega)).trans (show _ = Value.pointer (some ⟨p.pb, 0, none⟩) from by simp [upd, ee11, ee13, ee12, ee8])]; simp [go_sem]) fun F11 => ?_
              refine lyp F11 rfl HC6 rfl (by omega) (wanted_none rfl) (v := Value.pointer (some ⟨p.pb, 3, none⟩)) (fun wr hwr => by simp only [execOp, (F11.eval 94 (by omega)).trans (show _ = Value.pointer (some ⟨p.pb, 0, none⟩) from by simp [upd, ee11, ee13, ee12, ee8])]; simp [go_sem]) fun F12 => ?_
              refine lyp F12 rfl HC6 rfl (by omega) (wanted_none rfl) (v := Value.pointer (some ⟨kb, 0, none⟩)) (fun wr hwr => by simp only [execOp, (F12.eval 95 (by omega)).trans (show _ = Value.pointer (some ⟨p.pb, 3, none⟩) from by simp [upd, ee11, ee13, ee12, ee8])]; simp [go_sem, show wr.cell? ⟨p.pb, 3, none⟩ = some (.pointer (some ⟨kb, 0, none⟩)) from hwr.2.cell 3]) fun F13 => ?_
              refine lyp F13 rfl HC6 rfl (by omega) (wanted_none rfl) (v := Value.agg #[.pointer (some ⟨ab2, 0, none⟩), .pointer (some ⟨tb, 0, none⟩), .slice none 0 0, .pointer (some ⟨kb, 0, none⟩)]) (fun wr hwr => by simp only [execOp, List.map_toArray, List.map_cons, List.map_nil, (F13.eval 87 (by omega)).trans (show _ = Value.pointer (some ⟨ab2, 0, none⟩) from by simp [upd, ee11, ee13, ee12, ee8]), (F13.eval 92 (by omega)).trans (show _ = Value.pointer (some ⟨tb, 0, none⟩) from by simp [upd, ee11, ee13, ee12, ee8]), (F13.eval 96 (by omega)).trans (show _ = Value.pointer (some ⟨kb, 0, none⟩) from by simp [upd, ee11, ee13, ee12, ee8])]; simp [go_sem]; try rfl) fun F14 => ?_
              refine lep F14 rfl HC6 rfl (by omega) (wanted_none rfl) (v := Value.pointer (some ⟨w6.heap.size, 0, none⟩)) (w1 := w6.alloc (.cells #[.pointer (some ⟨ab2, 0, none⟩), .pointer (some ⟨tb, 0, none⟩), .slice none 0 0, .pointer (some ⟨kb, 0, none⟩)] 76)) (by simp only [execOp, (F14.eval 97 (by omega)).trans (show _ = Value.agg #[.pointer (some ⟨ab2, 0, none⟩), .pointer (some ⟨tb, 0, none⟩), .slice none 0 0, .pointer (some ⟨kb, 0, none⟩)] from by simp [upd, ee11, ee13, ee12, ee8])]; simp [go_sem]) fun F15 => ?_
              have HC7 : (fun wq => Blk wq sb #[.int .i64 x.kd, .int .i64 x.who, .int .i64 x.nn, .int .i64 x.k, .string ⟨x.n.toArray⟩, .int .i64 x.A, .int .i64 x.B, .int .i64 x.e0, .int .i64 x.e1, .int .i64 x.e2, .int .i64 x.ek, .string ⟨x.en.toArray⟩, .int .i64 x.eA, .int .i64 x.eB, .int .i64 x.er, .int .i64 x.va] 78 ∧ Blk wq p.pb (p.cs kb) 76) (w6.alloc (.cells #[.pointer (some ⟨ab2, 0, none⟩), .pointer (some ⟨tb, 0, none⟩), .slice none 0 0, .pointer (some ⟨kb, 0, none⟩)] 76)) := ⟨HC6.1.below ((Below.refl _ _).alloc (Nat.le_refl _) _) HC6.1.lt, HC6.2.below ((Below.refl _ _).alloc (Nat.le_refl _) _) HC6.2.lt⟩
              obtain ⟨hN1, hN2, hN3, u9, hN4⟩ := ru_copy (w' := w6.alloc (.cells #[.pointer (some ⟨ab2, 0, none⟩), .pointer (some ⟨tb, 0, none⟩), .slice none 0 0, .pointer (some ⟨kb, 0, none⟩)] 76)) (j := j) (s1 := w5.heap.size) (s2 := w6.heap.size) HRU3.out (Nat.le_trans HLL.out HBX3.out) (by rw [HQL.out]; omega) (HB35.out.trans ((HB6.out.trans (((Below.refl _ _).alloc (Nat.le_refl _) _).mono HB6.out.size)).mono HB35.out.size)) ⟨(HAM2.out.1.more HB6.out).more ((Below.refl _ _).alloc (Nat.le_refl _) _), HAM2.out.2⟩ (show RMap w5.heap.size tb tv p.M (w6.alloc (.cells #[.pointer (some ⟨ab2, 0, none⟩), .pointer (some ⟨tb, 0, none⟩), .slice none 0 0, .pointer (some ⟨kb, 0, none⟩)] 76)) from (RMap.more hT ((Below.refl _ _).alloc (Nat.le_refl _) _))) ⟨htb, hT.box.lt⟩ (fun k hk => (ownsRow_lt hT.row hk).2) ⟨heap_alloc_new w6 _, Nat.le_refl _⟩ HB35.out.size HB6.out.size
              refine lyp F15 rfl HC7 rfl (by omega) (wanted_none rfl) (v := Value.pointer (some ⟨lb, j, none⟩)) (fun wr hwr => by simp only [execOp, (F15.eval 8 (by omega)).trans (show _ = Value.pointer (some ⟨lb, 0, none⟩) from by simp [upd, ee11, ee13, ee12, ee8]), (F15.eval 86 (by omega)).trans (show _ = Value.int .i64 (j : Nat) from by simp [upd, ee11, ee13, ee12, ee8])]; simp [go_sem, Act.eval, hj2]; try omega) fun F16 => ?_
              refine lst rfl HC7 rfl (wanted_none rfl) (w1 := (w6.alloc (.cells #[.pointer (some ⟨ab2, 0, none⟩), .pointer (some ⟨tb, 0, none⟩), .slice none 0 0, .pointer (some ⟨kb, 0, none⟩)] 76)).setCell ⟨lb, j, none⟩ (.pointer (some ⟨w6.heap.size, 0, none⟩))) (by simp only [execOp, (F16.eval 99 (by omega)).trans (show _ = Value.pointer (some ⟨lb, j, none⟩) from by simp [upd, ee11, ee13, ee12, ee8]), (F16.eval 98 (by omega)).trans (show _ = Value.pointer (some ⟨w6.heap.size, 0, none⟩) from by simp [upd, ee11, ee13, ee12, ee8])]; simp [go_sem, hN3, hN4]) ?_
              have HNX : Hid (∃ qs', Held (RU L0 lb kb qs' S bv ts) ((w6.alloc (.cells #[.pointer (some ⟨ab2, 0, none⟩), .pointer (some ⟨tb, 0, none⟩), .slice none 0 0, .pointer (some ⟨kb, 0, none⟩)] 76)).setCell ⟨lb, j, none⟩ (.pointer (some ⟨w6.heap.size, 0, none⟩))) ∧ QOk (KK0 + 1) qs' S ∧ qs'.length = 3) := ⟨_, hN1, (HQO.out.mono (Nat.le_succ _) (fun c hc => hc)).set ⟨(HPO.out.ag.eqv HEQ.out).mono (Nat.le_succ _), HPO.out.sub, Nat.zero_le _, Nat.le_succ_of_le HLEN.out⟩, by rw [List.length_set]; exact HQL.out⟩
              have HBN : Hid (Below L0 w ((w6.alloc (.cells #[.pointer (some ⟨ab2, 0, none⟩), .pointer (some ⟨tb, 0, none⟩), .slice none 0 0, .pointer (some ⟨kb, 0, none⟩)] 76)).setCell ⟨lb, j, none⟩ (.pointer (some ⟨w6.heap.size, 0, none⟩)))) := HB03.out.trans hN2
              refine ⟨(fun h => absurd h (by decide)), ?_⟩
              first | refine hKK _ _ ?_ | skip
              clear F0 F1 F2 F3 F4 F5 F6 F7 F8 F9 F10 F11 F12 F13 F14 F15 F16 ee11 ee13 ee12 ee8 HCC HC6 HC7
              simp only [Act.put, List.setIfInBounds_toArray, List.set_cons_succ, List.set_cons_zero]
              clear hN1 hN2 hN3 hN4 hT htb hb6 HB6
              obtain ⟨qs', n1, n2, n3⟩ := HNX.out
              have HT2 : Hid (TOk (KK0 + 1) ts) := HT.out.mono (Nat.le_succ _)
              have N1 : Hid _ := n1
              have N2 : Hid (QOk (KK0 + 1) qs' S) := n2
              have N3 : Hid (qs'.length = 3) := n3
              clear n1 n2 n3 HNX
              go_wp2_with fail
              go_roundw
              case rel => exact ⟨KK0 + 1, qs', S, bv, ts, by omega, by omega, by go_num, N1.out, N2.out, N3.out, HT2.out, HBN.out⟩
              case measure => simp [intOf]; omega
            · have hk6 : (x.kd == 5) = false := by simpa using hk5
              have HPL : Hid _ := played_any x w3 HST3.out (Nat.le_trans HLL.out HBX3.out) HPO.out HT.out (show KK0 ≤ 90000 by omega) HXO.out
              have d1 : w3.cell? ⟨sb, 1, none⟩ = some (.int .i64 x.who) := HSB3.out.cell 1
              have d2 : w3.cell? ⟨sb, 2, none⟩ = some (.int .i64 x.nn) := HSB3.out.cell 2
              have d3 : w3.cell? ⟨sb, 3, none⟩ = some (.int .i64 x.k) := HSB3.out.cell 3
              have d4 : w3.cell? ⟨sb, 4, none⟩ = some (.string ⟨x.n.toArray⟩) := HSB3.out.cell 4
              have d5 : w3.cell? ⟨sb, 5, none⟩ = some (.int .i64 x.A) := HSB3.out.cell 5
              have d6 : w3.cell? ⟨sb, 6, none⟩ = some (.int .i64 x.B) := HSB3.out.cell 6
              have d7 : w3.cell? ⟨sb, 7, none⟩ = some (.int .i64 x.e0) := HSB3.out.cell 7
              have d8 : w3.cell? ⟨sb, 8, none⟩ = some (.int .i64 x.e1) := HSB3.out.cell 8
              have d9 : w3.cell? ⟨sb, 9, none⟩ = some (.int .i64 x.e2) := HSB3.out.cell 9
              have d10 : w3.cell? ⟨sb, 10, none⟩ = some (.int .i64 x.ek) := HSB3.out.cell 10
              have d11 : w3.cell? ⟨sb, 11, none⟩ = some (.string ⟨x.en.toArray⟩) := HSB3.out.cell 11
              have d12 : w3.cell? ⟨sb, 12, none⟩ = some (.int .i64 x.eA) := HSB3.out.cell 12
              have d13 : w3.cell? ⟨sb, 13, none⟩ = some (.int .i64 x.eB) := HSB3.out.cell 13
              have d14 : w3.cell? ⟨sb, 14, none⟩ = some (.int .i64 x.er) := HSB3.out.cell 14
              have d15 : w3.cell? ⟨sb, 15, none⟩ = some (.int .i64 x.va) := HSB3.out.cell 15
              go_wp2_with fail
              refine Calls.mono HPL.out ?_
              rintro e9 w5 ⟨p', S', bv', ts', rfl, h1, h2, h3, h4, h5, h6⟩
              have N1 : Hid (Held (RU L0 lb kb (qs.set j0 (some p')) S' bv' ts') w5) := st_ru HQJ.out h3 h1
              have N2 : Hid (QOk (KK0 + 1) (qs.set j0 (some p')) S') := (HQO.out.mono (Nat.le_succ _) h4).set h2
              have N3 : Hid ((qs.set j0 (some p')).length = 3) := show (qs.set j0 (some p')).length = 3 from by rw [List.length_set]; exact HQL.out
              have N4 : Hid (TOk (KK0 + 1) ts') := h5
              have N5 : Hid (Below L0 w w5) := HB03.out.trans h6
              clear h1 h2 h3 h4 h5 h6 HPL c0 hqc2 d1 d2 d3 d4 d5 d6 d7 d8 d9 d10 d11 d12 d13 d14 d15
              go_wp2_with fail
              go_roundw
              case rel => exact ⟨KK0 + 1, _, S', bv', ts', by omega, by omega, by go_num, N1.out, N2.out, N3.out, N4.out, N5.out⟩
              case measure => simp [intOf]; omega
          by_cases hC : x.kd < lo_
          · go_upto_region 12 with fail
            refine wp_region_lit ?_
            refine withFrS (N := 122) rfl ?_
            intro f0 F0 hff
            have hs12 : f0 12 = Value.pointer (some ⟨p.pb, 0, none⟩) := hff 12
            have hs11 : f0 11 = Value.pointer (some ⟨sb, 0, none⟩) := hff 11
            have hs1 : f0 1 = Value.int .i64 lo_ := hff 1
            have hs2 : f0 2 = Value.int .i64 hi_ := hff 2
            clear hff
            refine syp F0 rfl (by omega) (wanted_none rfl) (v := Value.pointer (some ⟨p.pb, 0, none⟩)) (by simp only [execOp, (F0.eval 12 (by omega)).trans (show _ = Value.pointer (some ⟨p.pb, 0, none⟩) from by simp [upd, hs12, hs11, hs1, hs2])]; first | rfl | simp [go_sem]) fun F1 => ?_
            refine syp F1 rfl (by omega) (wanted_none rfl) (v := Value.bool false) (by simp only [execOp, (F1.eval 50 (by omega)).trans (show _ = Value.pointer (some ⟨p.pb, 0, none⟩) from by simp [upd, hs12, hs11, hs1, hs2])]; simp [go_sem, Act.eval]) fun F2 => ?_
            refine syp F2 rfl (by omega) (wanted_none rfl) (v := Value.bool false) (by simp only [execOp, (F2.eval 51 (by omega)).trans (show _ = Value.bool false from by simp [upd, hs12, hs11, hs1, hs2])]; first | rfl | simp [go_sem]) fun F3 => ?_
            refine syp F3 rfl (by omega) (want_yes F3 rfl (e := 52) rfl (by omega) (show _ = Value.bool false from by simp [upd, hs12, hs11, hs1, hs2])) (v := Value.pointer (some ⟨sb, 0, none⟩)) (by simp only [execOp, (F3.eval 11 (by omega)).trans (show _ = Value.pointer (some ⟨sb, 0, none⟩) from by simp [upd, hs12, hs11, hs1, hs2])]; simp [go_sem, Act.eval]) fun F4 => ?_
            refine syp F4 rfl (by omega) (want_yes F4 rfl (e := 52) rfl (by omega) (show _ = Value.bool false from by simp [upd, hs12, hs11, hs1, hs2])) (v := Value.int .i64 x.kd) (by simp only [execOp, (F4.eval 53 (by omega)).trans (show _ = Value.pointer (some ⟨sb, 0, none⟩) from by simp [upd, hs12, hs11, hs1, hs2])]; simp [go_sem, Act.eval, c0]) fun F5 => ?_
            refine syp F5 rfl (by omega) (want_yes F5 rfl (e := 52) rfl (by omega) (show _ = Value.bool false from by simp [upd, hs12, hs11, hs1, hs2])) (v := Value.bool true) (by simp only [execOp, (F5.eval 54 (by omega)).trans (show _ = Value.int .i64 x.kd from by simp [upd, hs12, hs11, hs1, hs2])]; simp [go_sem, Act.eval, hA]) fun F6 => ?_
            refine syp F6 rfl (by omega) (want_yes F6 rfl (e := 52) rfl (by omega) (show _ = Value.bool false from by simp [upd, hs12, hs11, hs1, hs2])) (v := Value.bool true) (by simp only [execOp, (F6.eval 55 (by omega)).trans (show _ = Value.bool true from by simp [upd, hs12, hs11, hs1, hs2])]; first | rfl | simp [go_sem]) fun F7 => ?_
            refine syp F7 rfl (by omega) (want_yes F7 rfl (e := 56) rfl (by omega) (show _ = Value.bool true from by simp [upd, hs12, hs11, hs1, hs2])) (v := Value.pointer (some ⟨sb, 0, none⟩)) (by simp only [execOp, (F7.eval 11 (by omega)).trans (show _ = Value.pointer (some ⟨sb, 0, none⟩) from by simp [upd, hs12, hs11, hs1, hs2])]; simp [go_sem, Act.eval]) fun F8 => ?_
            refine syp F8 rfl (by omega) (want_yes F8 rfl (e := 56) rfl (by omega) (show _ = Value.bool true from by simp [upd, hs12, hs11, hs1, hs2])) (v := Value.int .i64 x.kd) (by simp only [execOp, (F8.eval 57 (by omega)).trans (show _ = Value.pointer (some ⟨sb, 0, none⟩) from by simp [upd, hs12, hs11, hs1, hs2])]; simp [go_sem, Act.eval, c0]) fun F9 => ?_
            refine syp F9 rfl (by omega) (want_yes F9 rfl (e := 56) rfl (by omega) (show _ = Value.bool true from by simp [upd, hs12, hs11, hs1, hs2])) (v := Value.bool true) (by simp only [execOp, (F9.eval 58 (by omega)).trans (show _ = Value.int .i64 x.kd from by simp [upd, hs12, hs11, hs1, hs2])]; simp [go_sem, Act.eval, hB]) fun F10 => ?_
            refine syp F10 rfl (by omega) (want_yes F10 rfl (e := 52) rfl (by omega) (show _ = Value.bool false from by simp [upd, hs12, hs11, hs1, hs2])) (v := Value.bool true) (by simp only [execOp, (F10.eval 56 (by omega)).trans (show _ = Value.bool true from by simp [upd, hs12, hs11, hs1, hs2]), (F10.eval 59 (by omega)).trans (show _ = Value.bool true from by simp [upd, hs12, hs11, hs1, hs2])]; simp [go_sem, Act.eval]) fun F11 => ?_
            refine syp F11 rfl (by omega) (want_yes F11 rfl (e := 52) rfl (by omega) (show _ = Value.bool false from by simp [upd, hs12, hs11, hs1, hs2])) (v := Value.bool true) (by simp only [execOp, (F11.eval 60 (by omega)).trans (show _ = Value.bool true from by simp [upd, hs12, hs11, hs1, hs2])]; first | rfl | simp [go_sem]) fun F12 => ?_
            refine syp F12 rfl (by omega) (want_yes F12 rfl (e := 61) rfl (by omega) (show _ = Value.bool true from by simp [upd, hs12, hs11, hs1, hs2])) (v := Value.pointer (some ⟨sb, 0, none⟩)) (by simp only [execOp, (F12.eval 11 (by omega)).trans (show _ = Value.pointer (some ⟨sb, 0, none⟩) from by simp [upd, hs12, hs11, hs1, hs2])]; simp [go_sem, Act.eval]) fun F13 => ?_
            refine syp F13 rfl (by omega) (want_yes F13 rfl (e := 61) rfl (by omega) (show _ = Value.bool true from by simp [upd, hs12, hs11, hs1, hs2])) (v := Value.int .i64 x.kd) (by simp only [execOp, (F13.eval 62 (by omega)).trans (show _ = Value.pointer (some ⟨sb, 0, none⟩) from by simp [upd, hs12, hs11, hs1, hs2])]; simp [go_sem, Act.eval, c0]) fun F14 => ?_
            refine syp F14 rfl (by omega) (want_yes F14 rfl (e := 61) rfl (by omega) (show _ = Value.bool true from by simp [upd, hs12, hs11, hs1, hs2])) (v := Value.int .i64 lo_) (by simp only [execOp, (F14.eval 1 (by omega)).trans (show _ = Value.int .i64 lo_ from by simp [upd, hs12, hs11, hs1, hs2])]; first | rfl | simp [go_sem]) fun F15 => ?_
            refine syp F15 rfl (by omega) (want_yes F15 rfl (e := 61) rfl (by omega) (show _ = Value.bool true from by simp [upd, hs12, hs11, hs1, hs2])) (v := Value.bool true) (by simp only [execOp, (F15.eval 63 (by omega)).trans (show _ = Value.int .i64 x.kd from by simp [upd, hs12, hs11, hs1, hs2]), (F15.eval 64 (by omega)).trans (show _ = Value.int .i64 lo_ from by simp [upd, hs12, hs11, hs1, hs2])]; simp [go_sem, Act.eval, hC]) fun F16 => ?_
            refine syp F16 rfl (by omega) (want_yes F16 rfl (e := 61) rfl (by omega) (show _ = Value.bool true from by simp [upd, hs12, hs11, hs1, hs2])) (v := Value.bool true) (by simp only [execOp, (F16.eval 65 (by omega)).trans (show _ = Value.bool true from by simp [upd, hs12, hs11, hs1, hs2])]; first | rfl | simp [go_sem]) fun F17 => ?_
            refine snp F17 rfl (by omega) (want_no F17 rfl (e := 66) rfl (by omega) (show _ = Value.bool true from by simp [upd, hs12, hs11, hs1, hs2]) (by decide)) fun F18 => ?_
            refine snp F18 rfl (by omega) (want_no F18 rfl (e := 66) rfl (by omega) (show _ = Value.bool true from by simp [upd, hs12, hs11, hs1, hs2]) (by decide)) fun F19 => ?_
            refine snp F19 rfl (by omega) (want_no F19 rfl (e := 66) rfl (by omega) (show _ = Value.bool true from by simp [upd, hs12, hs11, hs1, hs2]) (by decide)) fun F20 => ?_
            refine snp F20 rfl (by omega) (want_no F20 rfl (e := 66) rfl (by omega) (show _ = Value.bool true from by simp [upd, hs12, hs11, hs1, hs2]) (by decide)) fun F21 => ?_
            refine syp F21 rfl (by omega) (want_yes F21 rfl (e := 61) rfl (by omega) (show _ = Value.bool true from by simp [upd, hs12, hs11, hs1, hs2])) (v := Value.bool true) (by simp only [execOp, (F21.eval 66 (by omega)).trans (show _ = Value.bool true from by simp [upd, hs12, hs11, hs1, hs2])]; simp [go_sem, Act.eval]) fun F22 => ?_
            refine syp F22 rfl (by omega) (want_yes F22 rfl (e := 52) rfl (by omega) (show _ = Value.bool false from by simp [upd, hs12, hs11, hs1, hs2])) (v := Value.bool true) (by simp only [execOp, (F22.eval 61 (by omega)).trans (show _ = Value.bool true from by simp [upd, hs12, hs11, hs1, hs2]), (F22.eval 71 (by omega)).trans (show _ = Value.bool true from by simp [upd, hs12, hs11, hs1, hs2])]; simp [go_sem, Act.eval]) fun F23 => ?_
            refine syp F23 rfl (by omega) (wanted_none rfl) (v := Value.bool true) (by simp only [execOp, (F23.eval 52 (by omega)).trans (show _ = Value.bool false from by simp [upd, hs12, hs11, hs1, hs2]), (F23.eval 72 (by omega)).trans (show _ = Value.bool true from by simp [upd, hs12, hs11, hs1, hs2])]; simp [go_sem, Act.eval]) fun F24 => ?_
            refine ⟨?_⟩
            clear F0 F1 F2 F3 F4 F5 F6 F7 F8 F9 F10 F11 F12 F13 F14 F15 F16 F17 F18 F19 F20 F21 F22 F23 F24 hs12 hs11 hs1 hs2 
            simp only [Act.put, List.setIfInBounds_toArray, List.set_cons_succ, List.set_cons_zero]
            clear c0 hqc2
            obtain ⟨qs', S', bv', ts', n1, n2, n3, n4, n5⟩ := HNEXT.out
            have N1 : Hid (Held (RU L0 lb kb qs' S' bv' ts') w3) := n1
            have N2 : Hid (QOk (KK0 + 1) qs' S') := n2
            have N3 : Hid (qs'.length = 3) := n3
            have N4 : Hid (TOk (KK0 + 1) ts') := n4
            have N5 : Hid (Below L0 w w3) := n5
            clear n1 n2 n3 n4 n5
            go_wp2_with fail
            go_roundw
            case rel => exact ⟨KK0 + 1, qs', S', bv', ts', by omega, by omega, by go_num, N1.out, N2.out, N3.out, N4.out, N5.out⟩
            case measure => simp [intOf]; omega
          by_cases hD : hi_ < x.kd
          · go_upto_region 12 with fail
            refine wp_region_lit ?_
            refine withFrS (N := 122) rfl ?_
            intro f0 F0 hff
            have hs12 : f0 12 = Value.pointer (some ⟨p.pb, 0, none⟩) := hff 12
            have hs11 : f0 11 = Value.pointer (some ⟨sb, 0, none⟩) := hff 11
            have hs1 : f0 1 = Value.int .i64 lo_ := hff 1
            have hs2 : f0 2 = Value.int .i64 hi_ := hff 2
            clear hff
            refine syp F0 rfl (by omega) (wanted_none rfl) (v := Value.pointer (some ⟨p.pb, 0, none⟩)) (by simp only [execOp, (F0.eval 12 (by omega)).trans (show _ = Value.pointer (some ⟨p.pb, 0, none⟩) from by simp [upd, hs12, hs11, hs1, hs2])]; first | rfl | simp [go_sem]) fun F1 => ?_
            refine syp F1 rfl (by omega) (wanted_none rfl) (v := Value.bool false) (by simp only [execOp, (F1.eval 50 (by omega)).trans (show _ = Value.pointer (some ⟨p.pb, 0, none⟩) from by simp [upd, hs12, hs11, hs1, hs2])]; simp [go_sem, Act.eval]) fun F2 => ?_
            refine syp F2 rfl (by omega) (wanted_none rfl) (v := Value.bool false) (by simp only [execOp, (F2.eval 51 (by omega)).trans (show _ = Value.bool false from by simp [upd, hs12, hs11, hs1, hs2])]; first | rfl | simp [go_sem]) fun F3 => ?_
            refine syp F3 rfl (by omega) (want_yes F3 rfl (e := 52) rfl (by omega) (show _ = Value.bool false from by simp [upd, hs12, hs11, hs1, hs2])) (v := Value.pointer (some ⟨sb, 0, none⟩)) (by simp only [execOp, (F3.eval 11 (by omega)).trans (show _ = Value.pointer (some ⟨sb, 0, none⟩) from by simp [upd, hs12, hs11, hs1, hs2])]; simp [go_sem, Act.eval]) fun F4 => ?_
            refine syp F4 rfl (by omega) (want_yes F4 rfl (e := 52) rfl (by omega) (show _ = Value.bool false from by simp [upd, hs12, hs11, hs1, hs2])) (v := Value.int .i64 x.kd) (by simp only [execOp, (F4.eval 53 (by omega)).trans (show _ = Value.pointer (some ⟨sb, 0, none⟩) from by simp [upd, hs12, hs11, hs1, hs2])]; simp [go_sem, Act.eval, c0]) fun F5 => ?_
            refine syp F5 rfl (by omega) (want_yes F5 rfl (e := 52) rfl (by omega) (show _ = Value.bool false from by simp [upd, hs12, hs11, hs1, hs2])) (v := Value.bool true) (by simp only [execOp, (F5.eval 54 (by omega)).trans (show _ = Value.int .i64 x.kd from by simp [upd, hs12, hs11, hs1, hs2])]; simp [go_sem, Act.eval, hA]) fun F6 => ?_
            refine syp F6 rfl (by omega) (want_yes F6 rfl (e := 52) rfl (by omega) (show _ = Value.bool false from by simp [upd, hs12, hs11, hs1, hs2])) (v := Value.bool true) (by simp only [execOp, (F6.eval 55 (by omega)).trans (show _ = Value.bool true from by simp [upd, hs12, hs11, hs1, hs2])]; first | rfl | simp [go_sem]) fun F7 => ?_
            refine syp F7 rfl (by omega) (want_yes F7 rfl (e := 56) rfl (by omega) (show _ = Value.bool true from by simp [upd, hs12, hs11, hs1, hs2])) (v := Value.pointer (some ⟨sb, 0, none⟩)) (by simp only [execOp, (F7.eval 11 (by omega)).trans (show _ = Value.pointer (some ⟨sb, 0, none⟩) from by simp [upd, hs12, hs11, hs1, hs2])]; simp [go_sem, Act.eval]) fun F8 => ?_
            refine syp F8 rfl (by omega) (want_yes F8 rfl (e := 56) rfl (by omega) (show _ = Value.bool true from by simp [upd, hs12, hs11, hs1, hs2])) (v := Value.int .i64 x.kd) (by simp only [execOp, (F8.eval 57 (by omega)).trans (show _ = Value.pointer (some ⟨sb, 0, none⟩) from by simp [upd, hs12, hs11, hs1, hs2])]; simp [go_sem, Act.eval, c0]) fun F9 => ?_
            refine syp F9 rfl (by omega) (want_yes F9 rfl (e := 56) rfl (by omega) (show _ = Value.bool true from by simp [upd, hs12, hs11, hs1, hs2])) (v := Value.bool true) (by simp only [execOp, (F9.eval 58 (by omega)).trans (show _ = Value.int .i64 x.kd from by simp [upd, hs12, hs11, hs1, hs2])]; simp [go_sem, Act.eval, hB]) fun F10 => ?_
            refine syp F10 rfl (by omega) (want_yes F10 rfl (e := 52) rfl (by omega) (show _ = Value.bool false from by simp [upd, hs12, hs11, hs1, hs2])) (v := Value.bool true) (by simp only [execOp, (F10.eval 56 (by omega)).trans (show _ = Value.bool true from by simp [upd, hs12, hs11, hs1, hs2]), (F10.eval 59 (by omega)).trans (show _ = Value.bool true from by simp [upd, hs12, hs11, hs1, hs2])]; simp [go_sem, Act.eval]) fun F11 => ?_
            refine syp F11 rfl (by omega) (want_yes F11 rfl (e := 52) rfl (by omega) (show _ = Value.bool false from by simp [upd, hs12, hs11, hs1, hs2])) (v := Value.bool true) (by simp only [execOp, (F11.eval 60 (by omega)).trans (show _ = Value.bool true from by simp [upd, hs12, hs11, hs1, hs2])]; first | rfl | simp [go_sem]) fun F12 => ?_
            refine syp F12 rfl (by omega) (want_yes F12 rfl (e := 61) rfl (by omega) (show _ = Value.bool true from by simp [upd, hs12, hs11, hs1, hs2])) (v := Value.pointer (some ⟨sb, 0, none⟩)) (by simp only [execOp, (F12.eval 11 (by omega)).trans (show _ = Value.pointer (some ⟨sb, 0, none⟩) from by simp [upd, hs12, hs11, hs1, hs2])]; simp [go_sem, Act.eval]) fun F13 => ?_
            refine syp F13 rfl (by omega) (want_yes F13 rfl (e := 61) rfl (by omega) (show _ = Value.bool true from by simp [upd, hs12, hs11, hs1, hs2])) (v := Value.int .i64 x.kd) (by simp only [execOp, (F13.eval 62 (by omega)).trans (show _ = Value.pointer (some ⟨sb, 0, none⟩) from by simp [upd, hs12, hs11, hs1, hs2])]; simp [go_sem, Act.eval, c0]) fun F14 => ?_
            refine syp F14 rfl (by omega) (want_yes F14 rfl (e := 61) rfl (by omega) (show _ = Value.bool true from by simp [upd, hs12, hs11, hs1, hs2])) (v := Value.int .i64 lo_) (by simp only [execOp, (F14.eval 1 (by omega)).trans (show _ = Value.int .i64 lo_ from by simp [upd, hs12, hs11, hs1, hs2])]; first | rfl | simp [go_sem]) fun F15 => ?_
            refine syp F15 rfl (by omega) (want_yes F15 rfl (e := 61) rfl (by omega) (show _ = Value.bool true from by simp [upd, hs12, hs11, hs1, hs2])) (v := Value.bool false) (by simp only [execOp, (F15.eval 63 (by omega)).trans (show _ = Value.int .i64 x.kd from by simp [upd, hs12, hs11, hs1, hs2]), (F15.eval 64 (by omega)).trans (show _ = Value.int .i64 lo_ from by simp [upd, hs12, hs11, hs1, hs2])]; simp [go_sem, Act.eval, hC]) fun F16 => ?_
            refine syp F16 rfl (by omega) (want_yes F16 rfl (e := 61) rfl (by omega) (show _ = Value.bool true from by simp [upd, hs12, hs11, hs1, hs2])) (v := Value.bool false) (by simp only [execOp, (F16.eval 65 (by omega)).trans (show _ = Value.bool false from by simp [upd, hs12, hs11, hs1, hs2])]; first | rfl | simp [go_sem]) fun F17 => ?_
            refine syp F17 rfl (by omega) (want_yes F17 rfl (e := 66) rfl (by omega) (show _ = Value.bool false from by simp [upd, hs12, hs11, hs1, hs2])) (v := Value.pointer (some ⟨sb, 0, none⟩)) (by simp only [execOp, (F17.eval 11 (by omega)).trans (show _ = Value.pointer (some ⟨sb, 0, none⟩) from by simp [upd, hs12, hs11, hs1, hs2])]; simp [go_sem, Act.eval]) fun F18 => ?_
            refine syp F18 rfl (by omega) (want_yes F18 rfl (e := 66) rfl (by omega) (show _ = Value.bool false from by simp [upd, hs12, hs11, hs1, hs2])) (v := Value.int .i64 x.kd) (by simp only [execOp, (F18.eval 67 (by omega)).trans (show _ = Value.pointer (some ⟨sb, 0, none⟩) from by simp [upd, hs12, hs11, hs1, hs2])]; simp [go_sem, Act.eval, c0]) fun F19 => ?_
            refine syp F19 rfl (by omega) (want_yes F19 rfl (e := 66) rfl (by omega) (show _ = Value.bool false from by simp [upd, hs12, hs11, hs1, hs2])) (v := Value.int .i64 hi_) (by simp only [execOp, (F19.eval 2 (by omega)).trans (show _ = Value.int .i64 hi_ from by simp [upd, hs12, hs11, hs1, hs2])]; first | rfl | simp [go_sem]) fun F20 => ?_
            refine syp F20 rfl (by omega) (want_yes F20 rfl (e := 66) rfl (by omega) (show _ = Value.bool false from by simp [upd, hs12, hs11, hs1, hs2])) (v := Value.bool true) (by simp only [execOp, (F20.eval 68 (by omega)).trans (show _ = Value.int .i64 x.kd from by simp [upd, hs12, hs11, hs1, hs2]), (F20.eval 69 (by omega)).trans (show _ = Value.int .i64 hi_ from by simp [upd, hs12, hs11, hs1, hs2])]; simp [go_sem, Act.eval, hD]) fun F21 => ?_
            refine syp F21 rfl (by omega) (want_yes F21 rfl (e := 61) rfl (by omega) (show _ = Value.bool true from by simp [upd, hs12, hs11, hs1, hs2])) (v := Value.bool true) (by simp only [execOp, (F21.eval 66 (by omega)).trans (show _ = Value.bool false from by simp [upd, hs12, hs11, hs1, hs2]), (F21.eval 70 (by omega)).trans (show _ = Value.bool true from by simp [upd, hs12, hs11, hs1, hs2])]; simp [go_sem, Act.eval]) fun F22 => ?_
            refine syp F22 rfl (by omega) (want_yes F22 rfl (e := 52) rfl (by omega) (show _ = Value.bool false from by simp [upd, hs12, hs11, hs1, hs2])) (v := Value.bool true) (by simp only [execOp, (F22.eval 61 (by omega)).trans (show _ = Value.bool true from by simp [upd, hs12, hs11, hs1, hs2]), (F22.eval 71 (by omega)).trans (show _ = Value.bool true from by simp [upd, hs12, hs11, hs1, hs2])]; simp [go_sem, Act.eval]) fun F23 => ?_
            refine syp F23 rfl (by omega) (wanted_none rfl) (v := Value.bool true) (by simp only [execOp, (F23.eval 52 (by omega)).trans (show _ = Value.bool false from by simp [upd, hs12, hs11, hs1, hs2]), (F23.eval 72 (by omega)).trans (show _ = Value.bool true from by simp [upd, hs12, hs11, hs1, hs2])]; simp [go_sem, Act.eval]) fun F24 => ?_
            refine ⟨?_⟩
            clear F0 F1 F2 F3 F4 F5 F6 F7 F8 F9 F10 F11 F12 F13 F14 F15 F16 F17 F18 F19 F20 F21 F22 F23 F24 hs12 hs11 hs1 hs2 
            simp only [Act.put, List.setIfInBounds_toArray, List.set_cons_succ, List.set_cons_zero]
            clear c0 hqc2
            obtain ⟨qs', S', bv', ts', n1, n2, n3, n4, n5⟩ := HNEXT.out
            have N1 : Hid (Held (RU L0 lb kb qs' S' bv' ts') w3) := n1
            have N2 : Hid (QOk (KK0 + 1) qs' S') := n2
            have N3 : Hid (qs'.length = 3) := n3
            have N4 : Hid (TOk (KK0 + 1) ts') := n4
            have N5 : Hid (Below L0 w w3) := n5
            clear n1 n2 n3 n4 n5
            go_wp2_with fail
            go_roundw
            case rel => exact ⟨KK0 + 1, qs', S', bv', ts', by omega, by omega, by go_num, N1.out, N2.out, N3.out, N4.out, N5.out⟩
            case measure => simp [intOf]; omega
          go_upto_region 12 with fail
          refine wp_region_lit ?_
          refine withFrS (N := 122) rfl ?_
          intro f0 F0 hff
          have hs12 : f0 12 = Value.pointer (some ⟨p.pb, 0, none⟩) := hff 12
          have hs11 : f0 11 = Value.pointer (some ⟨sb, 0, none⟩) := hff 11
          have hs1 : f0 1 = Value.int .i64 lo_ := hff 1
          have hs2 : f0 2 = Value.int .i64 hi_ := hff 2
          clear hff
          refine syp F0 rfl (by omega) (wanted_none rfl) (v := Value.pointer (some ⟨p.pb, 0, none⟩)) (by simp only [execOp, (F0.eval 12 (by omega)).trans (show _ = Value.pointer (some ⟨p.pb, 0, none⟩) from by simp [upd, hs12, hs11, hs1, hs2])]; first | rfl | simp [go_sem]) fun F1 => ?_
          refine syp F1 rfl (by omega) (wanted_none rfl) (v := Value.bool false) (by simp only [execOp, (F1.eval 50 (by omega)).trans (show _ = Value.pointer (some ⟨p.pb, 0, none⟩) from by simp [upd, hs12, hs11, hs1, hs2])]; simp [go_sem, Act.eval]) fun F2 => ?_
          refine syp F2 rfl (by omega) (wanted_none rfl) (v := Value.bool false) (by simp only [execOp, (F2.eval 51 (by omega)).trans (show _ = Value.bool false from by simp [upd, hs12, hs11, hs1, hs2])]; first | rfl | simp [go_sem]) fun F3 => ?_
          refine syp F3 rfl (by omega) (want_yes F3 rfl (e := 52) rfl (by omega) (show _ = Value.bool false from by simp [upd, hs12, hs11, hs1, hs2])) (v := Value.pointer (some ⟨sb, 0, none⟩)) (by simp only [execOp, (F3.eval 11 (by omega)).trans (show _ = Value.pointer (some ⟨sb, 0, none⟩) from by simp [upd, hs12, hs11, hs1, hs2])]; simp [go_sem, Act.eval]) fun F4 => ?_
          refine syp F4 rfl (by omega) (want_yes F4 rfl (e := 52) rfl (by omega) (show _ = Value.bool false from by simp [upd, hs12, hs11, hs1, hs2])) (v := Value.int .i64 x.kd) (by simp only [execOp, (F4.eval 53 (by omega)).trans (show _ = Value.pointer (some ⟨sb, 0, none⟩) from by simp [upd, hs12, hs11, hs1, hs2])]; simp [go_sem, Act.eval, c0]) fun F5 => ?_
          refine syp F5 rfl (by omega) (want_yes F5 rfl (e := 52) rfl (by omega) (show _ = Value.bool false from by simp [upd, hs12, hs11, hs1, hs2])) (v := Value.bool true) (by simp only [execOp, (F5.eval 54 (by omega)).trans (show _ = Value.int .i64 x.kd from by simp [upd, hs12, hs11, hs1, hs2])]; simp [go_sem, Act.eval, hA]) fun F6 => ?_
          refine syp F6 rfl (by omega) (want_yes F6 rfl (e := 52) rfl (by omega) (show _ = Value.bool false from by simp [upd, hs12, hs11, hs1, hs2])) (v := Value.bool true) (by simp only [execOp, (F6.eval 55 (by omega)).trans (show _ = Value.bool true from by simp [upd, hs12, hs11, hs1, hs2])]; first | rfl | simp [go_sem]) fun F7 => ?_
          refine syp F7 rfl (by omega) (want_yes F7 rfl (e := 56) rfl (by omega) (show _ = Value.bool true from by simp [upd, hs12, hs11, hs1, hs2])) (v := Value.pointer (some ⟨sb, 0, none⟩)) (by simp only [execOp, (F7.eval 11 (by omega)).trans (show _ = Value.pointer (some ⟨sb, 0, none⟩) from by simp [upd, hs12, hs11, hs1, hs2])]; simp [go_sem, Act.eval]) fun F8 => ?_
          refine syp F8 rfl (by omega) (want_yes F8 rfl (e := 56) rfl (by omega) (show _ = Value.bool true from by simp [upd, hs12, hs11, hs1, hs2])) (v := Value.int .i64 x.kd) (by simp only [execOp, (F8.eval 57 (by omega)).trans (show _ = Value.pointer (some ⟨sb, 0, none⟩) from by simp [upd, hs12, hs11, hs1, hs2])]; simp [go_sem, Act.eval, c0]) fun F9 => ?_
          refine syp F9 rfl (by omega) (want_yes F9 rfl (e := 56) rfl (by omega) (show _ = Value.bool true from by simp [upd, hs12, hs11, hs1, hs2])) (v := Value.bool true) (by simp only [execOp, (F9.eval 58 (by omega)).trans (show _ = Value.int .i64 x.kd from by simp [upd, hs12, hs11, hs1, hs2])]; simp [go_sem, Act.eval, hB]) fun F10 => ?_
          refine syp F10 rfl (by omega) (want_yes F10 rfl (e := 52) rfl (by omega) (show _ = Value.bool false from by simp [upd, hs12, hs11, hs1, hs2])) (v := Value.bool true) (by simp only [execOp, (F10.eval 56 (by omega)).trans (show _ = Value.bool true from by simp [upd, hs12, hs11, hs1, hs2]), (F10.eval 59 (by omega)).trans (show _ = Value.bool true from by simp [upd, hs12, hs11, hs1, hs2])]; simp [go_sem, Act.eval]) fun F11 => ?_
          refine syp F11 rfl (by omega) (want_yes F11 rfl (e := 52) rfl (by omega) (show _ = Value.bool false from by simp [upd, hs12, hs11, hs1, hs2])) (v := Value.bool true) (by simp only [execOp, (F11.eval 60 (by omega)).trans (show _ = Value.bool true from by simp [upd, hs12, hs11, hs1, hs2])]; first | rfl | simp [go_sem]) fun F12 => ?_
          refine syp F12 rfl (by omega) (want_yes F12 rfl (e := 61) rfl (by omega) (show _ = Value.bool true from by simp [upd, hs12, hs11, hs1, hs2])) (v := Value.pointer (some ⟨sb, 0, none⟩)) (by simp only [execOp, (F12.eval 11 (by omega)).trans (show _ = Value.pointer (some ⟨sb, 0, none⟩) from by simp [upd, hs12, hs11, hs1, hs2])]; simp [go_sem, Act.eval]) fun F13 => ?_
          refine syp F13 rfl (by omega) (want_yes F13 rfl (e := 61) rfl (by omega) (show _ = Value.bool true from by simp [upd, hs12, hs11, hs1, hs2])) (v := Value.int .i64 x.kd) (by simp only [execOp, (F13.eval 62 (by omega)).trans (show _ = Value.pointer (some ⟨sb, 0, none⟩) from by simp [upd, hs12, hs11, hs1, hs2])]; simp [go_sem, Act.eval, c0]) fun F14 => ?_
          refine syp F14 rfl (by omega) (want_yes F14 rfl (e := 61) rfl (by omega) (show _ = Value.bool true from by simp [upd, hs12, hs11, hs1, hs2])) (v := Value.int .i64 lo_) (by simp only [execOp, (F14.eval 1 (by omega)).trans (show _ = Value.int .i64 lo_ from by simp [upd, hs12, hs11, hs1, hs2])]; first | rfl | simp [go_sem]) fun F15 => ?_
          refine syp F15 rfl (by omega) (want_yes F15 rfl (e := 61) rfl (by omega) (show _ = Value.bool true from by simp [upd, hs12, hs11, hs1, hs2])) (v := Value.bool false) (by simp only [execOp, (F15.eval 63 (by omega)).trans (show _ = Value.int .i64 x.kd from by simp [upd, hs12, hs11, hs1, hs2]), (F15.eval 64 (by omega)).trans (show _ = Value.int .i64 lo_ from by simp [upd, hs12, hs11, hs1, hs2])]; simp [go_sem, Act.eval, hC]) fun F16 => ?_
          refine syp F16 rfl (by omega) (want_yes F16 rfl (e := 61) rfl (by omega) (show _ = Value.bool true from by simp [upd, hs12, hs11, hs1, hs2])) (v := Value.bool false) (by simp only [execOp, (F16.eval 65 (by omega)).trans (show _ = Value.bool false from by simp [upd, hs12, hs11, hs1, hs2])]; first | rfl | simp [go_sem]) fun F17 => ?_
          refine syp F17 rfl (by omega) (want_yes F17 rfl (e := 66) rfl (by omega) (show _ = Value.bool false from by simp [upd, hs12, hs11, hs1, hs2])) (v := Value.pointer (some ⟨sb, 0, none⟩)) (by simp only [execOp, (F17.eval 11 (by omega)).trans (show _ = Value.pointer (some ⟨sb, 0, none⟩) from by simp [upd, hs12, hs11, hs1, hs2])]; simp [go_sem, Act.eval]) fun F18 => ?_
          refine syp F18 rfl (by omega) (want_yes F18 rfl (e := 66) rfl (by omega) (show _ = Value.bool false from by simp [upd, hs12, hs11, hs1, hs2])) (v := Value.int .i64 x.kd) (by simp only [execOp, (F18.eval 67 (by omega)).trans (show _ = Value.pointer (some ⟨sb, 0, none⟩) from by simp [upd, hs12, hs11, hs1, hs2])]; simp [go_sem, Act.eval, c0]) fun F19 => ?_
          refine syp F19 rfl (by omega) (want_yes F19 rfl (e := 66) rfl (by omega) (show _ = Value.bool false from by simp [upd, hs12, hs11, hs1, hs2])) (v := Value.int .i64 hi_) (by simp only [execOp, (F19.eval 2 (by omega)).trans (show _ = Value.int .i64 hi_ from by simp [upd, hs12, hs11, hs1, hs2])]; first | rfl | simp [go_sem]) fun F20 => ?_
          refine syp F20 rfl (by omega) (want_yes F20 rfl (e := 66) rfl (by omega) (show _ = Value.bool false from by simp [upd, hs12, hs11, hs1, hs2])) (v := Value.bool false) (by simp only [execOp, (F20.eval 68 (by omega)).trans (show _ = Value.int .i64 x.kd from by simp [upd, hs12, hs11, hs1, hs2]), (F20.eval 69 (by omega)).trans (show _ = Value.int .i64 hi_ from by simp [upd, hs12, hs11, hs1, hs2])]; simp [go_sem, Act.eval, hD]) fun F21 => ?_
          refine syp F21 rfl (by omega) (want_yes F21 rfl (e := 61) rfl (by omega) (show _ = Value.bool true from by simp [upd, hs12, hs11, hs1, hs2])) (v := Value.bool false) (by simp only [execOp, (F21.eval 66 (by omega)).trans (show _ = Value.bool false from by simp [upd, hs12, hs11, hs1, hs2]), (F21.eval 70 (by omega)).trans (show _ = Value.bool false from by simp [upd, hs12, hs11, hs1, hs2])]; simp [go_sem, Act.eval]) fun F22 => ?_
          refine syp F22 rfl (by omega) (want_yes F22 rfl (e := 52) rfl (by omega) (show _ = Value.bool false from by simp [upd, hs12, hs11, hs1, hs2])) (v := Value.bool false) (by simp only [execOp, (F22.eval 61 (by omega)).trans (show _ = Value.bool true from by simp [upd, hs12, hs11, hs1, hs2]), (F22.eval 71 (by omega)).trans (show _ = Value.bool false from by simp [upd, hs12, hs11, hs1, hs2])]; simp [go_sem, Act.eval]) fun F23 => ?_
          refine syp F23 rfl (by omega) (wanted_none rfl) (v := Value.bool false) (by simp only [execOp, (F23.eval 52 (by omega)).trans (show _ = Value.bool false from by simp [upd, hs12, hs11, hs1, hs2]), (F23.eval 72 (by omega)).trans (show _ = Value.bool false from by simp [upd, hs12, hs11, hs1, hs2])]; simp [go_sem, Act.eval]) fun F24 => ?_
          refine ⟨?_⟩
          clear F0 F1 F2 F3 F4 F5 F6 F7 F8 F9 F10 F11 F12 F13 F14 F15 F16 F17 F18 F19 F20 F21 F22 F23 F24 hs12 hs11 hs1 hs2 
          simp only [Act.put, List.setIfInBounds_toArray, List.set_cons_succ, List.set_cons_zero]
          have hk7 : x.kd ≠ 5 := by omega
          have hk6 : (x.kd == 5) = false := by simpa using hk7
          clear hk7
          have HPL : Hid _ := played_any x w3 HST3.out (Nat.le_trans HLL.out HBX3.out) HPO.out HT.out (show KK0 ≤ 90000 by omega) HXO.out
          have d1 : w3.cell? ⟨sb, 1, none⟩ = some (.int .i64 x.who) := HSB3.out.cell 1
          have d2 : w3.cell? ⟨sb, 2, none⟩ = some (.int .i64 x.nn) := HSB3.out.cell 2
          have d3 : w3.cell? ⟨sb, 3, none⟩ = some (.int .i64 x.k) := HSB3.out.cell 3
          have d4 : w3.cell? ⟨sb, 4, none⟩ = some (.string ⟨x.n.toArray⟩) := HSB3.out.cell 4
          have d5 : w3.cell? ⟨sb, 5, none⟩ = some (.int .i64 x.A) := HSB3.out.cell 5
          have d6 : w3.cell? ⟨sb, 6, none⟩ = some (.int .i64 x.B) := HSB3.out.cell 6
          have d7 : w3.cell? ⟨sb, 7, none⟩ = some (.int .i64 x.e0) := HSB3.out.cell 7
          have d8 : w3.cell? ⟨sb, 8, none⟩ = some (.int .i64 x.e1) := HSB3.out.cell 8
          have d9 : w3.cell? ⟨sb, 9, none⟩ = some (.int .i64 x.e2) := HSB3.out.cell 9
          have d10 : w3.cell? ⟨sb, 10, none⟩ = some (.int .i64 x.ek) := HSB3.out.cell 10
          have d11 : w3.cell? ⟨sb, 11, none⟩ = some (.string ⟨x.en.toArray⟩) := HSB3.out.cell 11
          have d12 : w3.cell? ⟨sb, 12, none⟩ = some (.int .i64 x.eA) := HSB3.out.cell 12
          have d13 : w3.cell? ⟨sb, 13, none⟩ = some (.int .i64 x.eB) := HSB3.out.cell 13
          have d14 : w3.cell? ⟨sb, 14, none⟩ = some (.int .i64 x.er) := HSB3.out.cell 14
          have d15 : w3.cell? ⟨sb, 15, none⟩ = some (.int .i64 x.va) := HSB3.out.cell 15
          go_wp2_with fail
          refine Calls.mono HPL.out ?_
          rintro e9 w5 ⟨p', S', bv', ts', rfl, h1, h2, h3, h4, h5, h6⟩
          have N1 : Hid (Held (RU L0 lb kb (qs.set j0 (some p')) S' bv' ts') w5) := st_ru HQJ.out h3 h1
          have N2 : Hid (QOk (KK0 + 1) (qs.set j0 (some p')) S') := (HQO.out.mono (Nat.le_succ _) h4).set h2
          have N3 : Hid ((qs.set j0 (some p')).length = 3) := show (qs.set j0 (some p')).length = 3 from by rw [List.length_set]; exact HQL.out
          have N4 : Hid (TOk (KK0 + 1) ts') := h5
          have N5 : Hid (Below L0 w w5) := HB03.out.trans h6
          clear h1 h2 h3 h4 h5 h6 HPL c0 hqc2 d1 d2 d3 d4 d5 d6 d7 d8 d9 d10 d11 d12 d13 d14 d15
          go_wp2_with fail
          go_roundw
          case rel => exact ⟨KK0 + 1, _, S', bv', ts', by omega, by omega, by go_num, N1.out, N2.out, N3.out, N4.out, N5.out⟩
          case measure => simp [intOf]; omega
      · have HFIN : Hid (∃ qs S bv ts KK0, KK0 ≤ 300 ∧ Held (RU L0 lb kb qs S bv ts) wr ∧ QOk KK0 qs S ∧ qs.length = 3 ∧ TOk KK0 ts ∧ Below L0 w wr) := ⟨qs, S, bv, ts, KK0, hj3, HH.out, HQO.out, HQL.out, HT.out, HBW.out⟩
        by_cases hj4 : KK0 < KN
        · have hj5 : ¬ KK0 < 300 := by omega
          clear hlt
          go_wp2_with fail
          go_meet
          case rel => exact HFIN.out
        · clear hlt
          go_wp2_with fail
          go_meet
          case rel => exact HFIN.out
  case rest =>
    obtain ⟨qs, S, bv, ts, KK0, hKK, hH, hQ, hq3, hT, hbw⟩ := hcut
    have HH0 : Hid (Held (RU L0 lb kb qs S bv ts) wc) := hH
    have HQO0 : Hid (QOk KK0 qs S) := hQ
    have HQL0 : Hid (qs.length = 3) := hq3
    have HT0 : Hid (TOk KK0 ts) := hT
    have HBW0 : Hid (Below L0 w wc) := hbw
    clear hH hQ hq3 hT hbw HY HQ0 HBY y0 yb
    go_wp2_with fail
    go_loopw [15] (fun s15 wr => ∃ (i : Nat) (qs : List (Option PR)) (S : List RC) (bv : Value) (ts : List TD), i ≤ 3 ∧ s15 = .int .i64 i ∧ Held (RU L0 lb kb qs S bv ts) wr ∧ QOk (KK0 + i) qs S ∧ qs.length = 3 ∧ TOk (KK0 + i) ts ∧ Below L0 w wr) (fun s15 _ => 3 - (intOf s15).toNat)
    case atStart => exact ⟨0, _, _, _, _, Nat.zero_le _, rfl, HH0.out, HQO0.out, HQL0.out, HT0.out, HBW0.out⟩
    case round =>
      obtain ⟨i, qs, S, bv, ts, hi3, rfl, hH, hQ, hq3, hT, hbw⟩ := hrel
      have HH : Hid (Held (RU L0 lb kb qs S bv ts) wr) := hH
      have HQO : Hid (QOk (KK0 + i) qs S) := hQ
      have HQL : Hid (qs.length = 3) := hq3
      have HT : Hid (TOk (KK0 + i) ts) := hT
      have HBW : Hid (Below L0 w wr) := hbw
      have HLW : Hid (L0 ≤ wr.heap.size) := show L0 ≤ wr.heap.size from by rw [HL0.out]; exact hbw.size
      clear hH hQ hq3 hT hbw HH0 HQO0 HQL0 HT0 HBW0
      by_cases hlt : i < 3
      · obtain ⟨q, hq⟩ := qs_get HQL.out (show i ≤ 2 by omega)
        have HQJ : Hid (qs[i]? = some q) := hq
        have hqc : wr.cell? ⟨lb, i, none⟩ = some (ptrV q) := by rw [(ru_box HH.out).1.cell i]; exact arr_at hq
        have hi0c : (i : Int) < 3 := by omega
        clear hq
        cases q with
        | none =>
          have hqc2 : wr.cell? ⟨lb, i, none⟩ = some (.pointer none) := hqc
          have HQ2 : Hid (QOk (KK0 + (i + 1)) qs S ∧ TOk (KK0 + (i + 1)) ts) := ⟨HQO.out.mono (by omega) (fun c hc => hc), HT.out.mono (by omega)⟩
          clear hqc
          go_wp2_with fail
          go_roundw
          case rel => exact ⟨i + 1, qs, S, bv, ts, by omega, by go_num, HH.out, HQ2.out.1, HQL.out, HQ2.out.2, HBW.out⟩
          case measure => simp [intOf]; omega
        | some p =>
          have hqc2 : wr.cell? ⟨lb, i, none⟩ = some (.pointer (some ⟨p.pb, 0, none⟩)) := hqc
          have HNP : Hid _ := names_p wr (ru_st HH.out HQJ.out) HLW.out (HQO.out p (List.mem_of_getElem? HQJ.out)) HT.out (show KK0 + i ≤ 90000 by omega)
          clear hqc
          go_wp2_with fail
          refine Calls.mono HNP.out ?_
          rintro e9 w5 ⟨p', S', bv', ts', rfl, h1, h2, h3, h4, h5, h6⟩
          have N1 : Hid (Held (RU L0 lb kb (qs.set i (some p')) S' bv' ts') w5) := st_ru HQJ.out h3 h1
          have N2 : Hid (QOk (KK0 + (i + 1)) (qs.set i (some p')) S') := (HQO.out.mono (by omega) h4).set (h2.mono (by omega) (fun c hc => hc))
          have N3 : Hid ((qs.set i (some p')).length = 3) := show (qs.set i (some p')).length = 3 from by rw [List.length_set]; exact HQL.out
          have N4 : Hid (TOk (KK0 + (i + 1)) ts') := h5
          have N5 : Hid (Below L0 w w5) := HBW.out.trans h6
          clear h1 h2 h3 h4 h5 h6 HNP
          go_wp2_with fail
          go_roundw
          case rel => exact ⟨i + 1, _, S', bv', ts', by omega, by go_num, N1.out, N2.out, N3.out, N4.out, N5.out⟩
          case measure => simp [intOf]; omega
      · have HAP : Hid _ := apart_any wr (TD_tolds HH.out) HLW.out HT.out (show KK0 + i ≤ 90000 by omega)
        go_wp2_with fail
        refine Calls.mono HAP.out ?_
        rintro e9 w5 ⟨rfl, hb5⟩
        have HF : Hid (Below w.heap.size w w5) := show Below w.heap.size w w5 from by rw [← HL0.out]; exact HBW.out.trans hb5
        clear hb5 HAP
        go_wp2_with fail
        go_ret
        exact ⟨rfl, HF.out⟩
end Go.Proofs.Ytaiknlnjahjeiaa
