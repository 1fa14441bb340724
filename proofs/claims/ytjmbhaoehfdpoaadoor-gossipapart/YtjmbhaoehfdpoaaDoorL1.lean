import Derived.Test.YtjmbhaoehfdpoaaDoorJoinF
namespace Go.Proofs.YtjmbhaoehfdpoaaDoor
open Go.RowKit Go.PlainAid Go.MapKept
set_option linter.unusedVariables false
set_option linter.unusedSimpArgs false
structure GO where
  k : Int
  wh : Int
  a : Int
  n : List UInt8
  d : Int
  u : Int
/-- Where an op lies. -/
structure GAt (W : World) (b off : Nat) (o : GO) : Prop where
  c0 : W.cell? ⟨b, off, none⟩ = some (.int .i64 o.k)
  c1 : W.cell? ⟨b, off + 1, none⟩ = some (.int .i64 o.wh)
  c2 : W.cell? ⟨b, off + 2, none⟩ = some (.int .i64 o.a)
  c3 : W.cell? ⟨b, off + 3, none⟩ = some (.string ⟨o.n.toArray⟩)
  c4 : W.cell? ⟨b, off + 4, none⟩ = some (.int .i64 o.d)
  c5 : W.cell? ⟨b, off + 5, none⟩ = some (.int .i64 o.u)
theorem GAt.below {W W' : World} {L b off : Nat} {o : GO} (h : GAt W b off o) (hb : Below L W W') (hL : b < L) : GAt W' b off o :=
  ⟨(hb.cell (p := ⟨b, off, none⟩) hL).trans h.c0, (hb.cell (p := ⟨b, off + 1, none⟩) hL).trans h.c1, (hb.cell (p := ⟨b, off + 2, none⟩) hL).trans h.c2, (hb.cell (p := ⟨b, off + 3, none⟩) hL).trans h.c3, (hb.cell (p := ⟨b, off + 4, none⟩) hL).trans h.c4, (hb.cell (p := ⟨b, off + 5, none⟩) hL).trans h.c5⟩
theorem GAt.lt {W : World} {b off : Nat} {o : GO} (h : GAt W b off o) : b < W.heap.size := World.block_lt_of_cell? W _ h.c0
structure LR (gb mb lb hb vb : Nat) (me : Int) (N : Nat) (L : GL) (w wr : World) : Prop where
  ga : GA gb mb lb hb vb me N L wr
  kd : Gm.KD L
  ok : ∀ m, okR (lk m L)
  up : (lk [107] L).2 = 0
  bel : Below w.heap.size w wr
  mb : w.heap.size ≤ mb
section
variable {gb mb lb hb vb : Nat} {me : Int} {N : Nat} {L L' : GL} {w W W' : World}
theorem LR.more (h : LR gb mb lb hb vb me N L w W) (hb' : Below W.heap.size W W') : LR gb mb lb hb vb me N L w W' := ⟨h.ga.more hb', h.kd, h.ok, h.up, h.bel.trans (hb'.mono h.bel.size), h.mb⟩
theorem LR.chg (h : LR gb mb lb hb vb me N L w W) (hc : Chg (fun b => b = mb) W W') : Below w.heap.size w W' := h.bel.trans ⟨hc.os, hc.tape, hc.output, hc.size, fun k hk => hc.block k (Nat.lt_of_lt_of_le hk h.bel.size) (fun e => by have := h.mb; omega)⟩
theorem LR.need (h : LR gb mb lb hb vb me N L w W) (k : List UInt8) (d u : Int) (hG : Gs gb mb me N (needN k d u L) W') (hc : Chg (fun b => b = mb) W W') (hk : k = [107] → u = 0) : LR gb mb lb hb vb me N (needN k d u L) w W' :=
  ⟨h.ga.setG hG hc, need_kd h.kd, need_ok k d u h.ok, by
    rw [lk_need]
    split
    · rename_i hq
      rw [hk hq.1.symm, h.up]
      rfl
    · exact h.up, h.chg hc, h.mb⟩
end
set_option maxRecDepth 100000 in
set_option maxHeartbeats 6400000 in
theorem apart_law {S : Led.Sens} {Ls : Nat} (z0 z1 : Int) (h0 : -9223372036854775808 ≤ z0 ∧ z0 ≤ 9223372036854775807) (h1 : -9223372036854775808 ≤ z1 ∧ z1 ≤ 9223372036854775807) (ao : Option Addr) (K cap : Nat) (os : List GO) (w : World) (hS : Led.Sen S Ls w) (hL : Ls ≤ w.heap.size) (hl : os.length = K)
    (hat : 0 < K → ∃ b off, ao = some ⟨b, off, none⟩ ∧ ∀ j o, os[j]? = some o → GAt w b (off + j * 6) o) (hok : ∀ o ∈ os, o.n.length ≤ 140737488351232) :
    Calls Tryd.prog 3 #[.int .i64 z0, .int .i64 z1, .slice ao K cap] w fun e w' => e = .returned (.bool true) ∧ Below w.heap.size w w' := by
  obtain ⟨nn, hnn⟩ : ∃ nn : Nat, 2 + wx z1 7 = (nn : Int) := ⟨(2 + wx z1 7).toNat, by have := wx_in z1 7 (by omega); omega⟩
  have hn8 : 2 ≤ nn ∧ nn ≤ 8 := by have := wx_in z1 7 (by omega); omega
  obtain ⟨me, hme⟩ : ∃ me : Int, me = wx z0 (nn : Int) := ⟨_, rfl⟩
  have hmi : 0 ≤ me ∧ me < (nn : Int) := by have := wx_in z0 (nn : Int) (by omega); omega
  have hcode : newCode me nn = 0 := by unfold newCode; rw [if_neg (by omega), if_neg (by omega)]
  obtain ⟨N1, hN1'⟩ : ∃ N1 : Int, N1 = (nn : Int) - 1 := ⟨_, rfl⟩
  have hN1 : IntKind.i64.wrap ((nn : Int) - 1) = N1 := by rw [IntKind.wrap_i64]; omega
  have HAL : Hid _ := alive_yes w hS hL
  have HW1 : Hid (∀ W, Calls Tryd.prog 8 #[.int .i64 z1, .int .i64 2, .int .i64 8] W fun e w' => e = .returned (.int .i64 (nn : Int)) ∧ w' = W) := fun W => by
    have := within_any z1 2 8 W h1.1 h1.2 (by omega) (by omega) (by omega)
    rw [show (2 : Int) + wx z1 (8 - 2 + 1) = nn from hnn] at this
    exact this
  have HW2 : Hid (∀ W, Calls Tryd.prog 8 #[.int .i64 z0, .int .i64 0, .int .i64 N1] W fun e w' => e = .returned (.int .i64 me) ∧ w' = W) := fun W => by
    have := within_any z0 0 N1 W h0.1 h0.2 (by omega) (by omega) (by omega)
    rw [show (0 : Int) + wx z0 (N1 - 0 + 1) = me from by rw [hme, show N1 - 0 + 1 = (nn : Int) by omega]; omega] at this
    exact this
  have HGN : Hid (∀ W, _) := fun W => gnew_any me nn W hcode
  have HLN : Hid (∀ W, _) := fun W => Led.new_any 1000 W (by decide)
  have HVN : Hid (∀ W, _) := fun W => new_any me nn W hcode
  have HAT : Hid (0 < K → ∃ b off, ao = some ⟨b, off, none⟩ ∧ ∀ j o, os[j]? = some o → GAt w b (off + j * 6) o) := hat
  have HOK : Hid (∀ o ∈ os, o.n.length ≤ 140737488351232) := hok
  have HLE : Hid (os.length = K) := hl
  have HMI : Hid ((0 ≤ me ∧ me < (nn : Int)) ∧ 2 ≤ nn ∧ nn ≤ 8) := And.intro hmi hn8
  clear hS hL h0 h1 hl hat hok hme hnn hcode hN1' hmi hn8
  go_enter Tryd.func3, Tryd.ntmps3
  go_wp2_with fail
  refine Calls.mono HAL.out ?_
  rintro e9 w1 ⟨rfl, hb1⟩
  clear HAL
  go_wp2_with fail
  refine Calls.mono (HW1.out w1) ?_
  rintro e9 w9 ⟨rfl, hw9⟩
  replace hw9 := hw9.symm
  subst hw9
  go_wp2_with fail
  refine Calls.mono (HW2.out w1) ?_
  rintro e9 w9 ⟨rfl, hw9⟩
  replace hw9 := hw9.symm
  subst hw9
  go_wp2_with fail
  refine Calls.mono (HGN.out w1) ?_
  rintro e9 w2 ⟨rfl, hG2, hb2, -⟩
  go_wp2_with fail
  refine Calls.mono (HLN.out w2) ?_
  rintro e9 w3 ⟨rfl, hw3⟩
  have hB3 : Blk w3 w2.heap.size (Led.LS.mk 0 0 0 1000 0).cs 63 := by rw [hw3]; exact heap_alloc_new w2 _
  have hb3 : Below w2.heap.size w2 w3 := by rw [hw3]; exact (Below.refl _ _).alloc (Nat.le_refl _) _
  clear hw3
  go_wp2_with fail
  refine Calls.mono (HW2.out w3) ?_
  rintro e9 w9 ⟨rfl, hw9⟩
  replace hw9 := hw9.symm
  subst hw9
  go_wp2_with fail
  refine Calls.mono (HVN.out w3) ?_
  rintro e9 w4 ⟨rfl, hV4, hb4, -⟩
  have hLR : LR (w1.heap.size + 1) w1.heap.size w2.heap.size (w3.heap.size + 1) w3.heap.size me nn [] w w4 :=
    ⟨⟨(hG2.more hb3).more hb4, (hB3.below hb4 hB3.lt), hV4, by have := hb3.size; have := hG2.map.lt; omega⟩, List.Pairwise.nil, fun m => ⟨⟨Int.le_refl _, show (0 : Int) ≤ 1099511627776 by decide⟩, Int.le_refl _, show (0 : Int) ≤ 1099511627776 by decide⟩, rfl, hb1.trans ((hb2.trans ((hb3.trans (hb4.mono hb3.size)).mono hb2.size)).mono hb1.size), hb1.size⟩
  obtain ⟨gb, hgb⟩ : ∃ gb, gb = w1.heap.size + 1 := ⟨_, rfl⟩
  obtain ⟨mb, hmb⟩ : ∃ mb, mb = w1.heap.size := ⟨_, rfl⟩
  obtain ⟨lb, hlb⟩ : ∃ lb, lb = w2.heap.size := ⟨_, rfl⟩
  obtain ⟨hb, hhb⟩ : ∃ hb, hb = w3.heap.size + 1 := ⟨_, rfl⟩
  obtain ⟨vb, hvb⟩ : ∃ vb, vb = w3.heap.size := ⟨_, rfl⟩
  rw [← hgb, ← hlb, ← hhb]
  rw [← hgb, ← hmb, ← hlb, ← hhb, ← hvb] at hLR
  have HR0 : Hid (LR gb mb lb hb vb me nn [] w w4) := hLR
  clear hLR hgb hmb hlb hhb hvb hb1 hb2 hb3 hb4 hG2 hB3 hV4 HW1 HW2 HGN HLN HVN hN1
  go_wp2_with fail
  go_loopw [15] (fun j wr => ∃ q : Nat, q ≤ K ∧ q ≤ 200 ∧ j = .int .i64 q ∧ ∃ L, LR gb mb lb hb vb me nn L w wr) (fun j _ => 200 - (intOf j).toNat)
  case atStart => exact ⟨0, Nat.zero_le _, Nat.zero_le _, rfl, [], HR0.out⟩
  case round =>
    obtain ⟨q, hqK, hq2, rfl, L, hLR⟩ := hrel
    have HR : Hid (LR gb mb lb hb vb me nn L w wr) := hLR
    clear hLR HR0
    by_cases hlt : q < K ∧ q < 200
    · obtain ⟨b, off, hao, hops⟩ := HAT.out (by omega)
      subst hao
      have hqo : q < os.length := by rw [HLE.out]; exact hlt.1
      have hg := hops q os[q] (List.getElem?_eq_getElem hqo)
      have hg2 := hg.below HR.out.bel hg.lt
      have hnl := HOK.out os[q] (List.getElem_mem hqo)
      generalize os[q] = o at *
      obtain ⟨ok, owh, oa, on, od, ou⟩ := o
      obtain ⟨c0, c1, c2, c3, c4, c5⟩ := hg2
      simp only at c0 c1 c2 c3 c4 c5 hnl
      have hlt1 := hlt.1
      have hlt2 := hlt.2
      clear hops hg hlt
      obtain ⟨ob, hob⟩ : ∃ ob, ob = wr.heap.size := ⟨_, rfl⟩
      obtain ⟨X, hX⟩ : ∃ X, X = wr.alloc (.cells #[.int .i64 ok, .int .i64 owh, .int .i64 oa, .string ⟨on.toArray⟩, .int .i64 od, .int .i64 ou] 38) := ⟨_, rfl⟩
      have hbX : Below wr.heap.size wr X := by rw [hX]; exact (Below.refl _ _).alloc (Nat.le_refl _) _
      have hBobX : Blk X ob #[.int .i64 ok, .int .i64 owh, .int .i64 oa, .string ⟨on.toArray⟩, .int .i64 od, .int .i64 ou] 38 := by rw [hX, hob]; exact heap_alloc_new wr _
      have hRX : LR gb mb lb hb vb me nn L w X := HR.out.more hbX
      have x0 : X.cell? ⟨ob, 0, none⟩ = some (.int .i64 ok) := hBobX.cell 0
      have x3 : X.cell? ⟨ob, 3, none⟩ = some (.string ⟨on.toArray⟩) := hBobX.cell 3
      clear hbX
      go_upto_region 12 with fail
      rw [← hX, ← hob]
      clear hX hob c0 c1 c2 c3 c4 c5
      by_cases hk : on = [107]
      · have HRX : Hid (LR gb mb lb hb vb me nn L w X) := hRX
        subst hk
        clear hBobX hRX
        go_wp2_with fail
        go_roundw
        case rel => exact ⟨q + 1, by omega, by omega, by go_num, _, HRX.out⟩
        case measure => simp [intOf]; omega
      · have hkb : (on == [107]) = false := by simpa using hk
        have HK : Hid (on ≠ [107]) := hk
        obtain ⟨k1, k2, hkk⟩ : ∃ k1 k2, lk [107] L = (k1, k2) := ⟨_, _, rfl⟩
        obtain ⟨n1, n2, hkn⟩ : ∃ n1 n2, lk on L = (n1, n2) := ⟨_, _, rfl⟩
        have HKK : Hid (lk [107] L = (k1, k2)) := hkk
        have HKN : Hid (lk on L = (n1, n2)) := hkn
        have HSK : Hid (∀ W, Calls Tryd.prog 15 #[.agg #[.int .i64 k1, .int .i64 k2], .agg #[.int .i64 k1, .int .i64 k2]] W fun r w' => r = .returned (.bool true) ∧ Below W.heap.size W w') := fun W => by
          have := Led.same_any k1 k2 k1 k2 W
          simpa using this
        have hl1 : Calls Tryd.prog 12 #[.pointer (some ⟨gb, 0, none⟩), .string ⟨#[107]⟩] X fun e w' => e = .returned (.agg #[.int .i64 k1, .int .i64 k2]) ∧ Below X.heap.size X w' := by
          have := lacks_any [107] X hRX.ga.gs
          rw [hkk] at this
          exact this
        have HL1 : Hid _ := hl1
        clear hl1 hk hkk hkn
        go_wp2_with fail
        refine Calls.mono (HL1.out) ?_
        rintro e9 V1 ⟨rfl, hbV1⟩
        have hRV1 : LR gb mb lb hb vb me nn L w V1 := hRX.more hbV1
        have hBobV1 : Blk V1 ob #[.int .i64 ok, .int .i64 owh, .int .i64 oa, .string ⟨on.toArray⟩, .int .i64 od, .int .i64 ou] 38 := hBobX.below hbV1 hBobX.lt
        obtain ⟨pb, hpb⟩ : ∃ pb, pb = V1.heap.size := ⟨_, rfl⟩
        obtain ⟨X2, hX2⟩ : ∃ X2, X2 = V1.alloc (.cells #[.int .i64 k1, .int .i64 k2] 36) := ⟨_, rfl⟩
        have hbX2 : Below V1.heap.size V1 X2 := by rw [hX2]; exact (Below.refl _ _).alloc (Nat.le_refl _) _
        have hBpb : Blk X2 pb #[.int .i64 k1, .int .i64 k2] 36 := by rw [hX2, hpb]; exact heap_alloc_new V1 _
        have hRX2 : LR gb mb lb hb vb me nn L w X2 := hRV1.more hbX2
        have hBobX2 : Blk X2 ob #[.int .i64 ok, .int .i64 owh, .int .i64 oa, .string ⟨on.toArray⟩, .int .i64 od, .int .i64 ou] 38 := hBobV1.below hbX2 hBobV1.lt
        have x3 : X2.cell? ⟨ob, 3, none⟩ = some (.string ⟨on.toArray⟩) := hBobX2.cell 3
        go_upto_region 14 with fail
        rw [← hX2, ← hpb]
        have hBpbX2 := hBpb
        clear hX2 hpb HL1
        have hl2 := lacks_any on X2 hRX2.ga.gs
        rw [HKN.out] at hl2
        have HL2 : Hid _ := hl2
        clear hl2
        go_wp2_with fail
        refine Calls.mono (HL2.out) ?_
        rintro e9 V2 ⟨rfl, hbV2⟩
        have hRV2 : LR gb mb lb hb vb me nn L w V2 := hRX2.more hbV2
        have hBobV2 : Blk V2 ob #[.int .i64 ok, .int .i64 owh, .int .i64 oa, .string ⟨on.toArray⟩, .int .i64 od, .int .i64 ou] 38 := hBobX2.below hbV2 hBobX2.lt
        have hBpbV2 : Blk V2 pb #[.int .i64 k1, .int .i64 k2] 36 := hBpbX2.below hbV2 hBpbX2.lt
        obtain ⟨rb, hrb⟩ : ∃ rb, rb = V2.heap.size := ⟨_, rfl⟩
        obtain ⟨X3, hX3⟩ : ∃ X3, X3 = V2.alloc (.cells #[.int .i64 n1, .int .i64 n2] 36) := ⟨_, rfl⟩
        have hbX3 : Below V2.heap.size V2 X3 := by rw [hX3]; exact (Below.refl _ _).alloc (Nat.le_refl _) _
        have hBrb : Blk X3 rb #[.int .i64 n1, .int .i64 n2] 36 := by rw [hX3, hrb]; exact heap_alloc_new V2 _
        have hRX3 : LR gb mb lb hb vb me nn L w X3 := hRV2.more hbX3
        have hBobX3 : Blk X3 ob #[.int .i64 ok, .int .i64 owh, .int .i64 oa, .string ⟨on.toArray⟩, .int .i64 od, .int .i64 ou] 38 := hBobV2.below hbX3 hBobV2.lt
        have hBpbX3 : Blk X3 pb #[.int .i64 k1, .int .i64 k2] 36 := hBpbV2.below hbX3 hBpbV2.lt
        go_upto_region 15 with fail
        rw [← hX3, ← hrb]
        have hBrbX3 := hBrb
        clear hX3 hrb HL2
        have x0 : X3.cell? ⟨ob, 0, none⟩ = some (.int .i64 ok) := hBobX3.cell 0
        have x3 : X3.cell? ⟨ob, 3, none⟩ = some (.string ⟨on.toArray⟩) := hBobX3.cell 3
        have x4 : X3.cell? ⟨ob, 4, none⟩ = some (.int .i64 od) := hBobX3.cell 4
        have x5 : X3.cell? ⟨ob, 5, none⟩ = some (.int .i64 ou) := hBobX3.cell 5
        have HW16 : Hid (nn ≤ 16 ∧ IntKind.i64.wrap me = me) := And.intro (by have := HMI.out; omega) (by rw [IntKind.wrap_i64]; have := HMI.out; omega)
        by_cases h2 : ok = 2
        · have h2b : (ok == 2) = true := by simpa using h2
          have HTI : Hid _ := hRX3.ga.tick on hRX3.kd hRX3.ok HW16.out.1 HW16.out.2
          clear h2
          go_wp2_with fail
          refine Calls.mono HTI.out ?_
          rintro e9 V3 ⟨rfl, L2, hga3, hkd3, hlk3, hok3, hc3⟩
          have hRV3 : LR gb mb lb hb vb me nn L2 w V3 := ⟨hga3, hkd3, hok3, by rw [hlk3 _ (fun e => HK.out e.symm)]; exact hRX3.up, hRX3.chg hc3, hRX3.mb⟩
          have hBpbV3 : Blk V3 pb #[.int .i64 k1, .int .i64 k2] 36 := hc3.blk hBpbX3 (hRX3.ga.gs.map.ne_b hBpbX3)
          obtain ⟨tb, htb⟩ : ∃ tb, tb = V3.heap.size := ⟨_, rfl⟩
          obtain ⟨X4, hX4⟩ : ∃ X4, X4 = V3.alloc (.cells #[.int .i64 0, .int .i64 0] 36) := ⟨_, rfl⟩
          have hbX4 : Below V3.heap.size V3 X4 := by rw [hX4]; exact (Below.refl _ _).alloc (Nat.le_refl _) _
          have hBtb : Blk X4 tb #[.int .i64 0, .int .i64 0] 36 := by rw [hX4, htb]; exact heap_alloc_new V3 _
          have hRX4 : LR gb mb lb hb vb me nn L2 w X4 := hRV3.more hbX4
          have hBpbX4 : Blk X4 pb #[.int .i64 k1, .int .i64 k2] 36 := hBpbV3.below hbX4 hBpbV3.lt
          go_upto_region 17 with fail
          rw [← hX4, ← htb]
          clear hX4 htb HTI
          have hkq : lk [107] L2 = (k1, k2) := (hlk3 _ (fun e => HK.out e.symm)).trans HKK.out
          have HRT : Hid (LR gb mb lb hb vb me nn L2 w X4) := hRX4
          have HBP : Hid (Blk X4 pb #[.int .i64 k1, .int .i64 k2] 36) := hBpbX4
          have HLK : Hid (∀ W, Gs gb mb me nn L2 W → Calls Tryd.prog 12 #[.pointer (some ⟨gb, 0, none⟩), .string ⟨#[107]⟩] W fun e w' => e = .returned (.agg #[.int .i64 k1, .int .i64 k2]) ∧ Below W.heap.size W w') := fun W hG => by
            have := lacks_any [107] W hG
            rw [hkq] at this
            exact this
          clear hga3 hkd3 hlk3 hok3 hc3 hRX hRV1 hRX2 hRV2 hRX3 hRV3 hRX4 hBobX hBobV1 hBobX2 hBobV2 hBobX3 hBpb hBpbX2 hBpbV2 hBpbX3 hBrb hBrbX3 hBpbV3 hBpbX4 hBtb hbV1 hbX2 hbV2 hbX3 hbX4 hkq x0 x3 x4 x5 HR
          go_wp2_with fail
          rename_i K hK
          try rw [show ∀ a : Act, a.put none undef = a from fun _ => rfl]
          refine wp_region_mix (fun wq => Blk wq pb #[.int .i64 k1, .int .i64 k2] 36) (fun i => i == 1 || i == 3 || i == 99) 99 (by kernel_rfl) rfl (by kernel_rfl) (by kernel_rfl) (by kernel_rfl) ?_
          refine withFrP (N := 177) rfl ?_
          intro f0 F0 hff
          have ee9 : f0 9 = Value.pointer (some ⟨gb, 0, none⟩) := hff 9
          have ee17 : f0 17 = Value.pointer (some ⟨pb, 0, none⟩) := hff 17
          have ee15 : f0 15 = Value.int .i64 (q : Int) := hff 15
          clear hff
          have HCC : (fun wq => Blk wq pb #[.int .i64 k1, .int .i64 k2] 36) (({ X4 with drawn := X4.drawn + 1 } : World)) := HBP.out
          refine lyp F0 rfl HCC rfl (by omega) (wanted_none rfl) (v := Value.pointer (some ⟨gb, 0, none⟩)) (fun wr hwr => by simp only [execOp, (F0.eval 9 (by omega)).trans (show _ = Value.pointer (some ⟨gb, 0, none⟩) from by simp [upd, ee9, ee17, ee15])]; first | rfl | simp [go_sem]) fun F1 => ?_
          refine lcp F1 rfl HCC rfl (by omega) (wanted_none rfl) (g := 12) (args := #[Value.pointer (some ⟨gb, 0, none⟩), Value.string ⟨#[107]⟩]) (by simp only [execOp, resolve, invoke, List.map_toArray, List.map_cons, List.map_nil, (F1.eval 164 (by omega)).trans (show _ = Value.pointer (some ⟨gb, 0, none⟩) from by simp [upd, ee9, ee17, ee15])]; simp [go_sem, Act.eval]) (HLK.out (({ X4 with drawn := X4.drawn + 1 } : World)) (HRT.out.ga.gs.more (Below.drew (Below.refl _ _)))) ?_
          rintro e9 V7 ⟨rfl, hb7⟩
          have hbV7 : Below X4.heap.size X4 V7 := (show Below X4.heap.size X4 (({ X4 with drawn := X4.drawn + 1 } : World)) from Below.drew (Below.refl _ _)).trans hb7
          refine ⟨_, rfl, fun F2 => ?_⟩
          have HC2 : (fun wq => Blk wq pb #[.int .i64 k1, .int .i64 k2] 36) V7 := HBP.out.below hbV7 HBP.out.lt
          refine lyp F2 rfl HC2 rfl (by omega) (wanted_none rfl) (v := Value.agg #[.int .i64 k1, .int .i64 k2]) (fun wr hwr => by simp only [execOp, (F2.eval 17 (by omega)).trans (show _ = Value.pointer (some ⟨pb, 0, none⟩) from by simp [upd, ee9, ee17, ee15])]; simp [go_sem, show wr.cell? ⟨pb, 0, none⟩ = some (.int .i64 k1) from Blk.cell hwr 0, show wr.cell? ⟨pb, 1, none⟩ = some (.int .i64 k2) from Blk.cell hwr 1]) fun F3 => ?_
          refine lcp F3 rfl HC2 rfl (by omega) (wanted_none rfl) (g := 15) (args := #[Value.agg #[.int .i64 k1, .int .i64 k2], Value.agg #[.int .i64 k1, .int .i64 k2]]) (by simp only [execOp, resolve, invoke, List.map_toArray, List.map_cons, List.map_nil, (F3.eval 165 (by omega)).trans (show _ = Value.agg #[.int .i64 k1, .int .i64 k2] from by simp [upd, ee9, ee17, ee15]), (F3.eval 166 (by omega)).trans (show _ = Value.agg #[.int .i64 k1, .int .i64 k2] from by simp [upd, ee9, ee17, ee15])]; simp [go_sem, Act.eval]) (HSK.out V7) ?_
          rintro e9 V8 ⟨rfl, hb8⟩
          have hbV8 : Below X4.heap.size X4 V8 := hbV7.trans (hb8.mono hbV7.size)
          refine ⟨_, rfl, fun F4 => ?_⟩
          have HC3 : (fun wq => Blk wq pb #[.int .i64 k1, .int .i64 k2] 36) V8 := HBP.out.below hbV8 HBP.out.lt
          refine lyp F4 rfl HC3 rfl (by omega) (wanted_none rfl) (v := Value.bool false) (fun wr hwr => by simp only [execOp, (F4.eval 167 (by omega)).trans (show _ = Value.bool true from by simp [upd, ee9, ee17, ee15])]; simp [go_sem, Act.eval]) fun F5 => ?_
          refine ⟨fun _ => HC3, ?_⟩
          first | refine hK _ _ ?_ | skip
          clear F0 F1 F2 F3 F4 F5 ee9 ee17 ee15 HCC HC2 HC3 hb7 hbV7 hb8
          simp only [Act.put, List.setIfInBounds_toArray, List.set_cons_succ, List.set_cons_zero]
          have HR8 : Hid (LR gb mb lb hb vb me nn L2 w V8) := HRT.out.more hbV8
          have HND : Hid _ := need_any [107] (q : Int) 0 V8 HR8.out.ga.gs (by decide)
          clear hbV8 HRT HBP HLK
          go_wp2_with fail
          refine Calls.mono HND.out ?_
          rintro e9 V9 ⟨rfl, hG9, hc9⟩
          have HR9 : Hid (LR gb mb lb hb vb me nn (needN [107] (q : Int) 0 L2) w V9) := HR8.out.need [107] (q : Int) 0 hG9 hc9 (fun _ => rfl)
          clear hG9 hc9 HR8 HND
          go_wp2_with fail
          go_roundw
          case rel => exact ⟨q + 1, by omega, by omega, by go_num, _, HR9.out⟩
          case measure => simp [intOf]; omega
        · have h2b : (ok == 2) = false := by simpa using h2
          have HND : Hid _ := need_any on od ou X3 hRX3.ga.gs (by omega)
          clear h2
          go_wp2_with fail
          refine Calls.mono HND.out ?_
          rintro e9 V3 ⟨rfl, hG3, hc3⟩
          have hRV3 : LR gb mb lb hb vb me nn (needN on od ou L) w V3 := hRX3.need on od ou hG3 hc3 (fun e => absurd e HK.out)
          have hBpbV3 : Blk V3 pb #[.int .i64 k1, .int .i64 k2] 36 := hc3.blk hBpbX3 (hRX3.ga.gs.map.ne_b hBpbX3)
          have hBrbV3 : Blk V3 rb #[.int .i64 n1, .int .i64 n2] 36 := hc3.blk hBrbX3 (hRX3.ga.gs.map.ne_b hBrbX3)
          have hBobV3 : Blk V3 ob #[.int .i64 ok, .int .i64 owh, .int .i64 oa, .string ⟨on.toArray⟩, .int .i64 od, .int .i64 ou] 38 := hc3.blk hBobX3 (hRX3.ga.gs.map.ne_b hBobX3)
          have y3 : V3.cell? ⟨ob, 3, none⟩ = some (.string ⟨on.toArray⟩) := hBobV3.cell 3
          obtain ⟨a1, a2, haf⟩ : ∃ a1 a2, lk on (needN on od ou L) = (a1, a2) := ⟨_, _, rfl⟩
          have hl3 := lacks_any on V3 hRV3.ga.gs
          rw [haf] at hl3
          have HL3 : Hid _ := hl3
          have HAF : Hid (lk on (needN on od ou L) = (a1, a2)) := haf
          have hkq : lk [107] (needN on od ou L) = (k1, k2) := by
            rw [lk_need, if_neg (fun e => HK.out e.1.symm)]
            exact HKK.out
          have HKQ : Hid (lk [107] (needN on od ou L) = (k1, k2)) := hkq
          clear hl3 haf hkq HND hG3 hc3 hRX hRV1 hRX2 hRV2 hRX3 hBobX hBobV1 hBobX2 hBobV2 hBobX3 hBpb hBpbX2 hBpbV2 hBpbX3 hBrb hBrbX3 hbV1 hbX2 hbV2 hbX3 x0 x3 x4 x5
          go_wp2_with fail
          refine Calls.mono (HL3.out) ?_
          rintro e9 V4 ⟨rfl, hbV4⟩
          have hRV4 : LR gb mb lb hb vb me nn (needN on od ou L) w V4 := hRV3.more hbV4
          have hBobV4 : Blk V4 ob #[.int .i64 ok, .int .i64 owh, .int .i64 oa, .string ⟨on.toArray⟩, .int .i64 od, .int .i64 ou] 38 := hBobV3.below hbV4 hBobV3.lt
          have hBpbV4 : Blk V4 pb #[.int .i64 k1, .int .i64 k2] 36 := hBpbV3.below hbV4 hBpbV3.lt
          have hBrbV4 : Blk V4 rb #[.int .i64 n1, .int .i64 n2] 36 := hBrbV3.below hbV4 hBrbV3.lt
          obtain ⟨ab, hab⟩ : ∃ ab, ab = V4.heap.size := ⟨_, rfl⟩
          obtain ⟨X5, hX5⟩ : ∃ X5, X5 = V4.alloc (.cells #[.int .i64 a1, .int .i64 a2] 36) := ⟨_, rfl⟩
          have hbX5 : Below V4.heap.size V4 X5 := by rw [hX5]; exact (Below.refl _ _).alloc (Nat.le_refl _) _
          have hBab : Blk X5 ab #[.int .i64 a1, .int .i64 a2] 36 := by rw [hX5, hab]; exact heap_alloc_new V4 _
          have hRX5 : LR gb mb lb hb vb me nn (needN on od ou L) w X5 := hRV4.more hbX5
          have hBobX5 : Blk X5 ob #[.int .i64 ok, .int .i64 owh, .int .i64 oa, .string ⟨on.toArray⟩, .int .i64 od, .int .i64 ou] 38 := hBobV4.below hbX5 hBobV4.lt
          have hBpbX5 : Blk X5 pb #[.int .i64 k1, .int .i64 k2] 36 := hBpbV4.below hbX5 hBpbV4.lt
          have hBrbX5 : Blk X5 rb #[.int .i64 n1, .int .i64 n2] 36 := hBrbV4.below hbX5 hBrbV4.lt
          go_upto_region 21 with fail
          rw [← hX5, ← hab]
          have hBabX5 := hBab
          clear hX5 hab HL3
          have z4 : X5.cell? ⟨ob, 4, none⟩ = some (.int .i64 od) := hBobX5.cell 4
          have z5 : X5.cell? ⟨ob, 5, none⟩ = some (.int .i64 ou) := hBobX5.cell 5
          have r0 : X5.cell? ⟨rb, 0, none⟩ = some (.int .i64 n1) := hBrbX5.cell 0
          have r1 : X5.cell? ⟨rb, 1, none⟩ = some (.int .i64 n2) := hBrbX5.cell 1
          obtain ⟨wb, hwb⟩ : ∃ wb, wb = X5.heap.size := ⟨_, rfl⟩
          obtain ⟨X6, hX6⟩ : ∃ X6, X6 = X5.alloc (.cells #[.int .i64 n1, .int .i64 n2] 36) := ⟨_, rfl⟩
          have hbX6 : Below X5.heap.size X5 X6 := by rw [hX6]; exact (Below.refl _ _).alloc (Nat.le_refl _) _
          have hBwb : Blk X6 wb #[.int .i64 n1, .int .i64 n2] 36 := by rw [hX6, hwb]; exact heap_alloc_new X5 _
          have hRX6 : LR gb mb lb hb vb me nn (needN on od ou L) w X6 := hRX5.more hbX6
          have hBobX6 : Blk X6 ob #[.int .i64 ok, .int .i64 owh, .int .i64 oa, .string ⟨on.toArray⟩, .int .i64 od, .int .i64 ou] 38 := hBobX5.below hbX6 hBobX5.lt
          have hBpbX6 : Blk X6 pb #[.int .i64 k1, .int .i64 k2] 36 := hBpbX5.below hbX6 hBpbX5.lt
          have hBrbX6 : Blk X6 rb #[.int .i64 n1, .int .i64 n2] 36 := hBrbX5.below hbX6 hBrbX5.lt
          have hBabX6 : Blk X6 ab #[.int .i64 a1, .int .i64 a2] 36 := hBabX5.below hbX6 hBabX5.lt
          have HWB : Hid (wb = X5.heap.size) := hwb
          by_cases g1 : 0 ≤ od
          · by_cases g2 : 0 ≤ ou
            · by_cases g3 : od ≤ 1099511627776
              · by_cases g4 : ou ≤ 1099511627776
                · have hyes : okC od = true ∧ okC ou = true := by simp only [okC, Bool.and_eq_true, decide_eq_true_eq]; omega
                  go_upto_region 23 with fail
                  rw [← hX6, ← hwb]
                  clear hX6 hwb
                  have hBwbX6 := hBwb
                  have he : a1 = max n1 od ∧ a2 = max n2 ou := by
                    have := HAF.out
                    rw [lk_need, if_pos ⟨rfl, hyes⟩, HKN.out] at this
                    simpa [eq_comm] using this
                  obtain ⟨e1, e2⟩ := he
                  have s0 : X6.cell? ⟨rb, 0, none⟩ = some (.int .i64 n1) := hBrbX6.cell 0
                  have s1 : X6.cell? ⟨rb, 1, none⟩ = some (.int .i64 n2) := hBrbX6.cell 1
                  have u4 : X6.cell? ⟨ob, 4, none⟩ = some (.int .i64 od) := hBobX6.cell 4
                  have u5 : X6.cell? ⟨ob, 5, none⟩ = some (.int .i64 ou) := hBobX6.cell 5
                  have t0 : X6.cell? ⟨wb, 0, none⟩ = some (.int .i64 n1) := hBwbX6.cell 0
                  have t1 : X6.cell? ⟨wb, 1, none⟩ = some (.int .i64 n2) := hBwbX6.cell 1
                  have f0 : X6.frozen? ⟨wb, 0, none⟩ = false := hBwbX6.frozen 0
                  have f1 : X6.frozen? ⟨wb, 1, none⟩ = false := hBwbX6.frozen 1
                  obtain ⟨X7, hX7⟩ : ∃ X7, X7 = (X6.setCell ⟨wb, 0, none⟩ (.int .i64 a1)).setCell ⟨wb, 1, none⟩ (.int .i64 a2) := ⟨_, rfl⟩
                  have hwl : wb = X5.heap.size := HWB.out
                  have hb7 : Below X5.heap.size X5 X7 := by rw [hX7]; exact set2_below hbX6 (Nat.le_of_eq hwl.symm) _ _
                  have hRX7 : LR gb mb lb hb vb me nn (needN on od ou L) w X7 := hRX5.more hb7
                  have hBpbX7 : Blk X7 pb #[.int .i64 k1, .int .i64 k2] 36 := hBpbX5.below hb7 hBpbX5.lt
                  have hBabX7 : Blk X7 ab #[.int .i64 a1, .int .i64 a2] 36 := hBabX5.below hb7 hBabX5.lt
                  have hBwbX7 : Blk X7 wb #[.int .i64 a1, .int .i64 a2] 36 := by rw [hX7]; exact (hBwbX6.set 0 (.int .i64 a1)).set 1 (.int .i64 a2)
                  have v0 : X7.cell? ⟨ab, 0, none⟩ = some (.int .i64 a1) := hBabX7.cell 0
                  have v1 : X7.cell? ⟨ab, 1, none⟩ = some (.int .i64 a2) := hBabX7.cell 1
                  have v2 : X7.cell? ⟨wb, 0, none⟩ = some (.int .i64 a1) := hBwbX7.cell 0
                  have v3 : X7.cell? ⟨wb, 1, none⟩ = some (.int .i64 a2) := hBwbX7.cell 1
                  have hsm : Calls Tryd.prog 15 #[.agg #[.int .i64 a1, .int .i64 a2], .agg #[.int .i64 a1, .int .i64 a2]] X7 fun r w' => r = .returned (.bool true) ∧ Below X7.heap.size X7 w' := by
                    have := Led.same_any a1 a2 a1 a2 X7
                    simpa using this
                  have HSM : Hid _ := hsm
                  have HE1 : Hid (a1 = max n1 od) := e1
                  have HE2 : Hid (a2 = max n2 ou) := e2
                  clear hsm z4 z5 r0 r1 y3 e1 e2 hb7 hwl
                  go_upto_region 25 with fail
                  rw [← HE1.out, ← HE2.out, ← hX7]
                  clear hX7 s0 s1 u4 u5 t0 t1 f0 f1
                  go_wp2_with fail
                  refine Calls.mono HSM.out ?_
                  rintro e9 V6 ⟨rfl, hb6⟩
                  have hRV6 : LR gb mb lb hb vb me nn (needN on od ou L) w V6 := hRX7.more hb6
                  have hBpbV6 : Blk V6 pb #[.int .i64 k1, .int .i64 k2] 36 := hBpbX7.below hb6 hBpbX7.lt
                  have HRT : Hid (LR gb mb lb hb vb me nn (needN on od ou L) w V6) := hRV6
                  have HBP : Hid (Blk V6 pb #[.int .i64 k1, .int .i64 k2] 36) := hBpbV6
                  have HLK : Hid (∀ W, Gs gb mb me nn (needN on od ou L) W → Calls Tryd.prog 12 #[.pointer (some ⟨gb, 0, none⟩), .string ⟨#[107]⟩] W fun e w' => e = .returned (.agg #[.int .i64 k1, .int .i64 k2]) ∧ Below W.heap.size W w') := fun W hG => by
                    have := lacks_any [107] W hG
                    rw [HKQ.out] at this
                    exact this
                  clear hb6 hRV3 hRV4 hRX5 hRX6 hRV6 hBpbV3 hBpbV4 hBpbX5 hBpbX6 hBpbV6 hBrbV3 hBrbV4 hBrbX5 hBrbX6 hBobV3 hBobV4 hBobX5 hBobX6 hBab hBabX5 hBabX6 hBwb hBwbX6 hbV4 hbX5 hbX6 HSM HR HAF HKQ hRX7 hBpbX7 hBabX7 hBwbX7 v0 v1 v2 v3
                  go_wp2_with fail
                  rename_i K hK
                  try rw [show ∀ a : Act, a.put none undef = a from fun _ => rfl]
                  refine wp_region_mix (fun wq => Blk wq pb #[.int .i64 k1, .int .i64 k2] 36) (fun i => i == 1 || i == 3 || i == 99) 99 (by kernel_rfl) rfl (by kernel_rfl) (by kernel_rfl) (by kernel_rfl) ?_
                  refine withFrP (N := 177) rfl ?_
                  intro f0 F0 hff
                  have ee9 : f0 9 = Value.pointer (some ⟨gb, 0, none⟩) := hff 9
                  have ee17 : f0 17 = Value.pointer (some ⟨pb, 0, none⟩) := hff 17
                  have ee15 : f0 15 = Value.int .i64 (q : Int) := hff 15
                  clear hff
                  have HCC : (fun wq => Blk wq pb #[.int .i64 k1, .int .i64 k2] 36) (({ V6 with drawn := V6.drawn + 1 } : World)) := HBP.out
                  refine lyp F0 rfl HCC rfl (by omega) (wanted_none rfl) (v := Value.pointer (some ⟨gb, 0, none⟩)) (fun wr hwr => by simp only [execOp, (F0.eval 9 (by omega)).trans (show _ = Value.pointer (some ⟨gb, 0, none⟩) from by simp [upd, ee9, ee17, ee15])]; first | rfl | simp [go_sem]) fun F1 => ?_
                  refine lcp F1 rfl HCC rfl (by omega) (wanted_none rfl) (g := 12) (args := #[Value.pointer (some ⟨gb, 0, none⟩), Value.string ⟨#[107]⟩]) (by simp only [execOp, resolve, invoke, List.map_toArray, List.map_cons, List.map_nil, (F1.eval 164 (by omega)).trans (show _ = Value.pointer (some ⟨gb, 0, none⟩) from by simp [upd, ee9, ee17, ee15])]; simp [go_sem, Act.eval]) (HLK.out (({ V6 with drawn := V6.drawn + 1 } : World)) (HRT.out.ga.gs.more (Below.drew (Below.refl _ _)))) ?_
                  rintro e9 V7 ⟨rfl, hb7⟩
                  have hbV7 : Below V6.heap.size V6 V7 := (show Below V6.heap.size V6 (({ V6 with drawn := V6.drawn + 1 } : World)) from Below.drew (Below.refl _ _)).trans hb7
                  refine ⟨_, rfl, fun F2 => ?_⟩
                  have HC2 : (fun wq => Blk wq pb #[.int .i64 k1, .int .i64 k2] 36) V7 := HBP.out.below hbV7 HBP.out.lt
                  refine lyp F2 rfl HC2 rfl (by omega) (wanted_none rfl) (v := Value.agg #[.int .i64 k1, .int .i64 k2]) (fun wr hwr => by simp only [execOp, (F2.eval 17 (by omega)).trans (show _ = Value.pointer (some ⟨pb, 0, none⟩) from by simp [upd, ee9, ee17, ee15])]; simp [go_sem, show wr.cell? ⟨pb, 0, none⟩ = some (.int .i64 k1) from Blk.cell hwr 0, show wr.cell? ⟨pb, 1, none⟩ = some (.int .i64 k2) from Blk.cell hwr 1]) fun F3 => ?_
                  refine lcp F3 rfl HC2 rfl (by omega) (wanted_none rfl) (g := 15) (args := #[Value.agg #[.int .i64 k1, .int .i64 k2], Value.agg #[.int .i64 k1, .int .i64 k2]]) (by simp only [execOp, resolve, invoke, List.map_toArray, List.map_cons, List.map_nil, (F3.eval 165 (by omega)).trans (show _ = Value.agg #[.int .i64 k1, .int .i64 k2] from by simp [upd, ee9, ee17, ee15]), (F3.eval 166 (by omega)).trans (show _ = Value.agg #[.int .i64 k1, .int .i64 k2] from by simp [upd, ee9, ee17, ee15])]; simp [go_sem, Act.eval]) (HSK.out V7) ?_
                  rintro e9 V8 ⟨rfl, hb8⟩
                  have hbV8 : Below V6.heap.size V6 V8 := hbV7.trans (hb8.mono hbV7.size)
                  refine ⟨_, rfl, fun F4 => ?_⟩
                  have HC3 : (fun wq => Blk wq pb #[.int .i64 k1, .int .i64 k2] 36) V8 := HBP.out.below hbV8 HBP.out.lt
                  refine lyp F4 rfl HC3 rfl (by omega) (wanted_none rfl) (v := Value.bool false) (fun wr hwr => by simp only [execOp, (F4.eval 167 (by omega)).trans (show _ = Value.bool true from by simp [upd, ee9, ee17, ee15])]; simp [go_sem, Act.eval]) fun F5 => ?_
                  refine ⟨fun _ => HC3, ?_⟩
                  first | refine hK _ _ ?_ | skip
                  clear F0 F1 F2 F3 F4 F5 ee9 ee17 ee15 HCC HC2 HC3 hb7 hbV7 hb8
                  simp only [Act.put, List.setIfInBounds_toArray, List.set_cons_succ, List.set_cons_zero]
                  have HR8 : Hid (LR gb mb lb hb vb me nn (needN on od ou L) w V8) := HRT.out.more hbV8
                  have HND : Hid _ := need_any [107] (q : Int) 0 V8 HR8.out.ga.gs (by decide)
                  clear hbV8 HRT HBP HLK
                  go_wp2_with fail
                  refine Calls.mono HND.out ?_
                  rintro e9 V9 ⟨rfl, hG9, hc9⟩
                  have HR9 : Hid (LR gb mb lb hb vb me nn (needN [107] (q : Int) 0 (needN on od ou L)) w V9) := HR8.out.need [107] (q : Int) 0 hG9 hc9 (fun _ => rfl)
                  clear hG9 hc9 HR8 HND
                  go_wp2_with fail
                  go_roundw
                  case rel => exact ⟨q + 1, by omega, by omega, by go_num, _, HR9.out⟩
                  case measure => simp [intOf]; omega
                · have hno : ¬ (okC od = true ∧ okC ou = true) := by simp only [okC, Bool.and_eq_true, decide_eq_true_eq]; omega
                  go_upto_region 23 with fail
                  rw [← hX6, ← hwb]
                  clear hX6 hwb
                  have hBwbX6 := hBwb
                  have he : a1 = n1 ∧ a2 = n2 := by
                    have := HAF.out
                    rw [lk_need, if_neg (fun e => hno e.2), HKN.out] at this
                    simpa [eq_comm] using this
                  obtain ⟨e1, e2⟩ := he
                  subst e1 e2
                  have s0 : X6.cell? ⟨ab, 0, none⟩ = some (.int .i64 a1) := hBabX6.cell 0
                  have s1 : X6.cell? ⟨ab, 1, none⟩ = some (.int .i64 a2) := hBabX6.cell 1
                  have t0 : X6.cell? ⟨wb, 0, none⟩ = some (.int .i64 a1) := hBwbX6.cell 0
                  have t1 : X6.cell? ⟨wb, 1, none⟩ = some (.int .i64 a2) := hBwbX6.cell 1
                  have hsm : Calls Tryd.prog 15 #[.agg #[.int .i64 a1, .int .i64 a2], .agg #[.int .i64 a1, .int .i64 a2]] X6 fun r w' => r = .returned (.bool true) ∧ Below X6.heap.size X6 w' := by
                    have := Led.same_any a1 a2 a1 a2 X6
                    simpa using this
                  have HSM : Hid _ := hsm
                  clear hsm z4 z5 r0 r1 y3 hno
                  go_wp2_with fail
                  refine Calls.mono HSM.out ?_
                  rintro e9 V6 ⟨rfl, hb6⟩
                  have hRV6 : LR gb mb lb hb vb me nn (needN on od ou L) w V6 := hRX6.more hb6
                  have hBpbV6 : Blk V6 pb #[.int .i64 k1, .int .i64 k2] 36 := hBpbX6.below hb6 hBpbX6.lt
                  have HRT : Hid (LR gb mb lb hb vb me nn (needN on od ou L) w V6) := hRV6
                  have HBP : Hid (Blk V6 pb #[.int .i64 k1, .int .i64 k2] 36) := hBpbV6
                  have HLK : Hid (∀ W, Gs gb mb me nn (needN on od ou L) W → Calls Tryd.prog 12 #[.pointer (some ⟨gb, 0, none⟩), .string ⟨#[107]⟩] W fun e w' => e = .returned (.agg #[.int .i64 k1, .int .i64 k2]) ∧ Below W.heap.size W w') := fun W hG => by
                    have := lacks_any [107] W hG
                    rw [HKQ.out] at this
                    exact this
                  clear hb6 hRV3 hRV4 hRX5 hRX6 hRV6 hBpbV3 hBpbV4 hBpbX5 hBpbX6 hBpbV6 hBrbV3 hBrbV4 hBrbX5 hBrbX6 hBobV3 hBobV4 hBobX5 hBobX6 hBab hBabX5 hBabX6 hBwb hBwbX6 hbV4 hbX5 hbX6 HSM HR HAF HKQ s0 s1 t0 t1
                  go_wp2_with fail
                  rename_i K hK
                  try rw [show ∀ a : Act, a.put none undef = a from fun _ => rfl]
                  refine wp_region_mix (fun wq => Blk wq pb #[.int .i64 k1, .int .i64 k2] 36) (fun i => i == 1 || i == 3 || i == 99) 99 (by kernel_rfl) rfl (by kernel_rfl) (by kernel_rfl) (by kernel_rfl) ?_
                  refine withFrP (N := 177) rfl ?_
                  intro f0 F0 hff
                  have ee9 : f0 9 = Value.pointer (some ⟨gb, 0, none⟩) := hff 9
                  have ee17 : f0 17 = Value.pointer (some ⟨pb, 0, none⟩) := hff 17
                  have ee15 : f0 15 = Value.int .i64 (q : Int) := hff 15
                  clear hff
                  have HCC : (fun wq => Blk wq pb #[.int .i64 k1, .int .i64 k2] 36) (({ V6 with drawn := V6.drawn + 1 } : World)) := HBP.out
                  refine lyp F0 rfl HCC rfl (by omega) (wanted_none rfl) (v := Value.pointer (some ⟨gb, 0, none⟩)) (fun wr hwr => by simp only [execOp, (F0.eval 9 (by omega)).trans (show _ = Value.pointer (some ⟨gb, 0, none⟩) from by simp [upd, ee9, ee17, ee15])]; first | rfl | simp [go_sem]) fun F1 => ?_
                  refine lcp F1 rfl HCC rfl (by omega) (wanted_none rfl) (g := 12) (args := #[Value.pointer (some ⟨gb, 0, none⟩), Value.string ⟨#[107]⟩]) (by simp only [execOp, resolve, invoke, List.map_toArray, List.map_cons, List.map_nil, (F1.eval 164 (by omega)).trans (show _ = Value.pointer (some ⟨gb, 0, none⟩) from by simp [upd, ee9, ee17, ee15])]; simp [go_sem, Act.eval]) (HLK.out (({ V6 with drawn := V6.drawn + 1 } : World)) (HRT.out.ga.gs.more (Below.drew (Below.refl _ _)))) ?_
                  rintro e9 V7 ⟨rfl, hb7⟩
                  have hbV7 : Below V6.heap.size V6 V7 := (show Below V6.heap.size V6 (({ V6 with drawn := V6.drawn + 1 } : World)) from Below.drew (Below.refl _ _)).trans hb7
                  refine ⟨_, rfl, fun F2 => ?_⟩
                  have HC2 : (fun wq => Blk wq pb #[.int .i64 k1, .int .i64 k2] 36) V7 := HBP.out.below hbV7 HBP.out.lt
                  refine lyp F2 rfl HC2 rfl (by omega) (wanted_none rfl) (v := Value.agg #[.int .i64 k1, .int .i64 k2]) (fun wr hwr => by simp only [execOp, (F2.eval 17 (by omega)).trans (show _ = Value.pointer (some ⟨pb, 0, none⟩) from by simp [upd, ee9, ee17, ee15])]; simp [go_sem, show wr.cell? ⟨pb, 0, none⟩ = some (.int .i64 k1) from Blk.cell hwr 0, show wr.cell? ⟨pb, 1, none⟩ = some (.int .i64 k2) from Blk.cell hwr 1]) fun F3 => ?_
                  refine lcp F3 rfl HC2 rfl (by omega) (wanted_none rfl) (g := 15) (args := #[Value.agg #[.int .i64 k1, .int .i64 k2], Value.agg #[.int .i64 k1, .int .i64 k2]]) (by simp only [execOp, resolve, invoke, List.map_toArray, List.map_cons, List.map_nil, (F3.eval 165 (by omega)).trans (show _ = Value.agg #[.int .i64 k1, .int .i64 k2] from by simp [upd, ee9, ee17, ee15]), (F3.eval 166 (by omega)).trans (show _ = Value.agg #[.int .i64 k1, .int .i64 k2] from by simp [upd, ee9, ee17, ee15])]; simp [go_sem, Act.eval]) (HSK.out V7) ?_
                  rintro e9 V8 ⟨rfl, hb8⟩
                  have hbV8 : Below V6.heap.size V6 V8 := hbV7.trans (hb8.mono hbV7.size)
                  refine ⟨_, rfl, fun F4 => ?_⟩
                  have HC3 : (fun wq => Blk wq pb #[.int .i64 k1, .int .i64 k2] 36) V8 := HBP.out.below hbV8 HBP.out.lt
                  refine lyp F4 rfl HC3 rfl (by omega) (wanted_none rfl) (v := Value.bool false) (fun wr hwr => by simp only [execOp, (F4.eval 167 (by omega)).trans (show _ = Value.bool true from by simp [upd, ee9, ee17, ee15])]; simp [go_sem, Act.eval]) fun F5 => ?_
                  refine ⟨fun _ => HC3, ?_⟩
                  first | refine hK _ _ ?_ | skip
                  clear F0 F1 F2 F3 F4 F5 ee9 ee17 ee15 HCC HC2 HC3 hb7 hbV7 hb8
                  simp only [Act.put, List.setIfInBounds_toArray, List.set_cons_succ, List.set_cons_zero]
                  have HR8 : Hid (LR gb mb lb hb vb me nn (needN on od ou L) w V8) := HRT.out.more hbV8
                  have HND : Hid _ := need_any [107] (q : Int) 0 V8 HR8.out.ga.gs (by decide)
                  clear hbV8 HRT HBP HLK
                  go_wp2_with fail
                  refine Calls.mono HND.out ?_
                  rintro e9 V9 ⟨rfl, hG9, hc9⟩
                  have HR9 : Hid (LR gb mb lb hb vb me nn (needN [107] (q : Int) 0 (needN on od ou L)) w V9) := HR8.out.need [107] (q : Int) 0 hG9 hc9 (fun _ => rfl)
                  clear hG9 hc9 HR8 HND
                  go_wp2_with fail
                  go_roundw
                  case rel => exact ⟨q + 1, by omega, by omega, by go_num, _, HR9.out⟩
                  case measure => simp [intOf]; omega
              · have hno : ¬ (okC od = true ∧ okC ou = true) := by simp only [okC, Bool.and_eq_true, decide_eq_true_eq]; omega
                go_upto_region 23 with fail
                rw [← hX6, ← hwb]
                clear hX6 hwb
                have hBwbX6 := hBwb
                have he : a1 = n1 ∧ a2 = n2 := by
                  have := HAF.out
                  rw [lk_need, if_neg (fun e => hno e.2), HKN.out] at this
                  simpa [eq_comm] using this
                obtain ⟨e1, e2⟩ := he
                subst e1 e2
                have s0 : X6.cell? ⟨ab, 0, none⟩ = some (.int .i64 a1) := hBabX6.cell 0
                have s1 : X6.cell? ⟨ab, 1, none⟩ = some (.int .i64 a2) := hBabX6.cell 1
                have t0 : X6.cell? ⟨wb, 0, none⟩ = some (.int .i64 a1) := hBwbX6.cell 0
                have t1 : X6.cell? ⟨wb, 1, none⟩ = some (.int .i64 a2) := hBwbX6.cell 1
                have hsm : Calls Tryd.prog 15 #[.agg #[.int .i64 a1, .int .i64 a2], .agg #[.int .i64 a1, .int .i64 a2]] X6 fun r w' => r = .returned (.bool true) ∧ Below X6.heap.size X6 w' := by
                  have := Led.same_any a1 a2 a1 a2 X6
                  simpa using this
                have HSM : Hid _ := hsm
                clear hsm z4 z5 r0 r1 y3 hno
                go_wp2_with fail
                refine Calls.mono HSM.out ?_
                rintro e9 V6 ⟨rfl, hb6⟩
                have hRV6 : LR gb mb lb hb vb me nn (needN on od ou L) w V6 := hRX6.more hb6
                have hBpbV6 : Blk V6 pb #[.int .i64 k1, .int .i64 k2] 36 := hBpbX6.below hb6 hBpbX6.lt
                have HRT : Hid (LR gb mb lb hb vb me nn (needN on od ou L) w V6) := hRV6
                have HBP : Hid (Blk V6 pb #[.int .i64 k1, .int .i64 k2] 36) := hBpbV6
                have HLK : Hid (∀ W, Gs gb mb me nn (needN on od ou L) W → Calls Tryd.prog 12 #[.pointer (some ⟨gb, 0, none⟩), .string ⟨#[107]⟩] W fun e w' => e = .returned (.agg #[.int .i64 k1, .int .i64 k2]) ∧ Below W.heap.size W w') := fun W hG => by
                  have := lacks_any [107] W hG
                  rw [HKQ.out] at this
                  exact this
                clear hb6 hRV3 hRV4 hRX5 hRX6 hRV6 hBpbV3 hBpbV4 hBpbX5 hBpbX6 hBpbV6 hBrbV3 hBrbV4 hBrbX5 hBrbX6 hBobV3 hBobV4 hBobX5 hBobX6 hBab hBabX5 hBabX6 hBwb hBwbX6 hbV4 hbX5 hbX6 HSM HR HAF HKQ s0 s1 t0 t1
                go_wp2_with fail
                rename_i K hK
                try rw [show ∀ a : Act, a.put none undef = a from fun _ => rfl]
                refine wp_region_mix (fun wq => Blk wq pb #[.int .i64 k1, .int .i64 k2] 36) (fun i => i == 1 || i == 3 || i == 99) 99 (by kernel_rfl) rfl (by kernel_rfl) (by kernel_rfl) (by kernel_rfl) ?_
                refine withFrP (N := 177) rfl ?_
                intro f0 F0 hff
                have ee9 : f0 9 = Value.pointer (some ⟨gb, 0, none⟩) := hff 9
                have ee17 : f0 17 = Value.pointer (some ⟨pb, 0, none⟩) := hff 17
                have ee15 : f0 15 = Value.int .i64 (q : Int) := hff 15
                clear hff
                have HCC : (fun wq => Blk wq pb #[.int .i64 k1, .int .i64 k2] 36) (({ V6 with drawn := V6.drawn + 1 } : World)) := HBP.out
                refine lyp F0 rfl HCC rfl (by omega) (wanted_none rfl) (v := Value.pointer (some ⟨gb, 0, none⟩)) (fun wr hwr => by simp only [execOp, (F0.eval 9 (by omega)).trans (show _ = Value.pointer (some ⟨gb, 0, none⟩) from by simp [upd, ee9, ee17, ee15])]; first | rfl | simp [go_sem]) fun F1 => ?_
                refine lcp F1 rfl HCC rfl (by omega) (wanted_none rfl) (g := 12) (args := #[Value.pointer (some ⟨gb, 0, none⟩), Value.string ⟨#[107]⟩]) (by simp only [execOp, resolve, invoke, List.map_toArray, List.map_cons, List.map_nil, (F1.eval 164 (by omega)).trans (show _ = Value.pointer (some ⟨gb, 0, none⟩) from by simp [upd, ee9, ee17, ee15])]; simp [go_sem, Act.eval]) (HLK.out (({ V6 with drawn := V6.drawn + 1 } : World)) (HRT.out.ga.gs.more (Below.drew (Below.refl _ _)))) ?_
                rintro e9 V7 ⟨rfl, hb7⟩
                have hbV7 : Below V6.heap.size V6 V7 := (show Below V6.heap.size V6 (({ V6 with drawn := V6.drawn + 1 } : World)) from Below.drew (Below.refl _ _)).trans hb7
                refine ⟨_, rfl, fun F2 => ?_⟩
                have HC2 : (fun wq => Blk wq pb #[.int .i64 k1, .int .i64 k2] 36) V7 := HBP.out.below hbV7 HBP.out.lt
                refine lyp F2 rfl HC2 rfl (by omega) (wanted_none rfl) (v := Value.agg #[.int .i64 k1, .int .i64 k2]) (fun wr hwr => by simp only [execOp, (F2.eval 17 (by omega)).trans (show _ = Value.pointer (some ⟨pb, 0, none⟩) from by simp [upd, ee9, ee17, ee15])]; simp [go_sem, show wr.cell? ⟨pb, 0, none⟩ = some (.int .i64 k1) from Blk.cell hwr 0, show wr.cell? ⟨pb, 1, none⟩ = some (.int .i64 k2) from Blk.cell hwr 1]) fun F3 => ?_
                refine lcp F3 rfl HC2 rfl (by omega) (wanted_none rfl) (g := 15) (args := #[Value.agg #[.int .i64 k1, .int .i64 k2], Value.agg #[.int .i64 k1, .int .i64 k2]]) (by simp only [execOp, resolve, invoke, List.map_toArray, List.map_cons, List.map_nil, (F3.eval 165 (by omega)).trans (show _ = Value.agg #[.int .i64 k1, .int .i64 k2] from by simp [upd, ee9, ee17, ee15]), (F3.eval 166 (by omega)).trans (show _ = Value.agg #[.int .i64 k1, .int .i64 k2] from by simp [upd, ee9, ee17, ee15])]; simp [go_sem, Act.eval]) (HSK.out V7) ?_
                rintro e9 V8 ⟨rfl, hb8⟩
                have hbV8 : Below V6.heap.size V6 V8 := hbV7.trans (hb8.mono hbV7.size)
                refine ⟨_, rfl, fun F4 => ?_⟩
                have HC3 : (fun wq => Blk wq pb #[.int .i64 k1, .int .i64 k2] 36) V8 := HBP.out.below hbV8 HBP.out.lt
                refine lyp F4 rfl HC3 rfl (by omega) (wanted_none rfl) (v := Value.bool false) (fun wr hwr => by simp only [execOp, (F4.eval 167 (by omega)).trans (show _ = Value.bool true from by simp [upd, ee9, ee17, ee15])]; simp [go_sem, Act.eval]) fun F5 => ?_
                refine ⟨fun _ => HC3, ?_⟩
                first | refine hK _ _ ?_ | skip
                clear F0 F1 F2 F3 F4 F5 ee9 ee17 ee15 HCC HC2 HC3 hb7 hbV7 hb8
                simp only [Act.put, List.setIfInBounds_toArray, List.set_cons_succ, List.set_cons_zero]
                have HR8 : Hid (LR gb mb lb hb vb me nn (needN on od ou L) w V8) := HRT.out.more hbV8
                have HND : Hid _ := need_any [107] (q : Int) 0 V8 HR8.out.ga.gs (by decide)
                clear hbV8 HRT HBP HLK
                go_wp2_with fail
                refine Calls.mono HND.out ?_
                rintro e9 V9 ⟨rfl, hG9, hc9⟩
                have HR9 : Hid (LR gb mb lb hb vb me nn (needN [107] (q : Int) 0 (needN on od ou L)) w V9) := HR8.out.need [107] (q : Int) 0 hG9 hc9 (fun _ => rfl)
                clear hG9 hc9 HR8 HND
                go_wp2_with fail
                go_roundw
                case rel => exact ⟨q + 1, by omega, by omega, by go_num, _, HR9.out⟩
                case measure => simp [intOf]; omega
            · have hno : ¬ (okC od = true ∧ okC ou = true) := by simp only [okC, Bool.and_eq_true, decide_eq_true_eq]; omega
              go_upto_region 23 with fail
              rw [← hX6, ← hwb]
              clear hX6 hwb
              have hBwbX6 := hBwb
              have he : a1 = n1 ∧ a2 = n2 := by
                have := HAF.out
                rw [lk_need, if_neg (fun e => hno e.2), HKN.out] at this
                simpa [eq_comm] using this
              obtain ⟨e1, e2⟩ := he
              subst e1 e2
              have s0 : X6.cell? ⟨ab, 0, none⟩ = some (.int .i64 a1) := hBabX6.cell 0
              have s1 : X6.cell? ⟨ab, 1, none⟩ = some (.int .i64 a2) := hBabX6.cell 1
              have t0 : X6.cell? ⟨wb, 0, none⟩ = some (.int .i64 a1) := hBwbX6.cell 0
              have t1 : X6.cell? ⟨wb, 1, none⟩ = some (.int .i64 a2) := hBwbX6.cell 1
              have hsm : Calls Tryd.prog 15 #[.agg #[.int .i64 a1, .int .i64 a2], .agg #[.int .i64 a1, .int .i64 a2]] X6 fun r w' => r = .returned (.bool true) ∧ Below X6.heap.size X6 w' := by
                have := Led.same_any a1 a2 a1 a2 X6
                simpa using this
              have HSM : Hid _ := hsm
              clear hsm z4 z5 r0 r1 y3 hno
              go_wp2_with fail
              refine Calls.mono HSM.out ?_
              rintro e9 V6 ⟨rfl, hb6⟩
              have hRV6 : LR gb mb lb hb vb me nn (needN on od ou L) w V6 := hRX6.more hb6
              have hBpbV6 : Blk V6 pb #[.int .i64 k1, .int .i64 k2] 36 := hBpbX6.below hb6 hBpbX6.lt
              have HRT : Hid (LR gb mb lb hb vb me nn (needN on od ou L) w V6) := hRV6
              have HBP : Hid (Blk V6 pb #[.int .i64 k1, .int .i64 k2] 36) := hBpbV6
              have HLK : Hid (∀ W, Gs gb mb me nn (needN on od ou L) W → Calls Tryd.prog 12 #[.pointer (some ⟨gb, 0, none⟩), .string ⟨#[107]⟩] W fun e w' => e = .returned (.agg #[.int .i64 k1, .int .i64 k2]) ∧ Below W.heap.size W w') := fun W hG => by
                have := lacks_any [107] W hG
                rw [HKQ.out] at this
                exact this
              clear hb6 hRV3 hRV4 hRX5 hRX6 hRV6 hBpbV3 hBpbV4 hBpbX5 hBpbX6 hBpbV6 hBrbV3 hBrbV4 hBrbX5 hBrbX6 hBobV3 hBobV4 hBobX5 hBobX6 hBab hBabX5 hBabX6 hBwb hBwbX6 hbV4 hbX5 hbX6 HSM HR HAF HKQ s0 s1 t0 t1
              go_wp2_with fail
              rename_i K hK
              try rw [show ∀ a : Act, a.put none undef = a from fun _ => rfl]
              refine wp_region_mix (fun wq => Blk wq pb #[.int .i64 k1, .int .i64 k2] 36) (fun i => i == 1 || i == 3 || i == 99) 99 (by kernel_rfl) rfl (by kernel_rfl) (by kernel_rfl) (by kernel_rfl) ?_
              refine withFrP (N := 177) rfl ?_
              intro f0 F0 hff
              have ee9 : f0 9 = Value.pointer (some ⟨gb, 0, none⟩) := hff 9
              have ee17 : f0 17 = Value.pointer (some ⟨pb, 0, none⟩) := hff 17
              have ee15 : f0 15 = Value.int .i64 (q : Int) := hff 15
              clear hff
              have HCC : (fun wq => Blk wq pb #[.int .i64 k1, .int .i64 k2] 36) (({ V6 with drawn := V6.drawn + 1 } : World)) := HBP.out
              refine lyp F0 rfl HCC rfl (by omega) (wanted_none rfl) (v := Value.pointer (some ⟨gb, 0, none⟩)) (fun wr hwr => by simp only [execOp, (F0.eval 9 (by omega)).trans (show _ = Value.pointer (some ⟨gb, 0, none⟩) from by simp [upd, ee9, ee17, ee15])]; first | rfl | simp [go_sem]) fun F1 => ?_
              refine lcp F1 rfl HCC rfl (by omega) (wanted_none rfl) (g := 12) (args := #[Value.pointer (some ⟨gb, 0, none⟩), Value.string ⟨#[107]⟩]) (by simp only [execOp, resolve, invoke, List.map_toArray, List.map_cons, List.map_nil, (F1.eval 164 (by omega)).trans (show _ = Value.pointer (some ⟨gb, 0, none⟩) from by simp [upd, ee9, ee17, ee15])]; simp [go_sem, Act.eval]) (HLK.out (({ V6 with drawn := V6.drawn + 1 } : World)) (HRT.out.ga.gs.more (Below.drew (Below.refl _ _)))) ?_
              rintro e9 V7 ⟨rfl, hb7⟩
              have hbV7 : Below V6.heap.size V6 V7 := (show Below V6.heap.size V6 (({ V6 with drawn := V6.drawn + 1 } : World)) from Below.drew (Below.refl _ _)).trans hb7
              refine ⟨_, rfl, fun F2 => ?_⟩
              have HC2 : (fun wq => Blk wq pb #[.int .i64 k1, .int .i64 k2] 36) V7 := HBP.out.below hbV7 HBP.out.lt
              refine lyp F2 rfl HC2 rfl (by omega) (wanted_none rfl) (v := Value.agg #[.int .i64 k1, .int .i64 k2]) (fun wr hwr => by simp only [execOp, (F2.eval 17 (by omega)).trans (show _ = Value.pointer (some ⟨pb, 0, none⟩) from by simp [upd, ee9, ee17, ee15])]; simp [go_sem, show wr.cell? ⟨pb, 0, none⟩ = some (.int .i64 k1) from Blk.cell hwr 0, show wr.cell? ⟨pb, 1, none⟩ = some (.int .i64 k2) from Blk.cell hwr 1]) fun F3 => ?_
              refine lcp F3 rfl HC2 rfl (by omega) (wanted_none rfl) (g := 15) (args := #[Value.agg #[.int .i64 k1, .int .i64 k2], Value.agg #[.int .i64 k1, .int .i64 k2]]) (by simp only [execOp, resolve, invoke, List.map_toArray, List.map_cons, List.map_nil, (F3.eval 165 (by omega)).trans (show _ = Value.agg #[.int .i64 k1, .int .i64 k2] from by simp [upd, ee9, ee17, ee15]), (F3.eval 166 (by omega)).trans (show _ = Value.agg #[.int .i64 k1, .int .i64 k2] from by simp [upd, ee9, ee17, ee15])]; simp [go_sem, Act.eval]) (HSK.out V7) ?_
              rintro e9 V8 ⟨rfl, hb8⟩
              have hbV8 : Below V6.heap.size V6 V8 := hbV7.trans (hb8.mono hbV7.size)
              refine ⟨_, rfl, fun F4 => ?_⟩
              have HC3 : (fun wq => Blk wq pb #[.int .i64 k1, .int .i64 k2] 36) V8 := HBP.out.below hbV8 HBP.out.lt
              refine lyp F4 rfl HC3 rfl (by omega) (wanted_none rfl) (v := Value.bool false) (fun wr hwr => by simp only [execOp, (F4.eval 167 (by omega)).trans (show _ = Value.bool true from by simp [upd, ee9, ee17, ee15])]; simp [go_sem, Act.eval]) fun F5 => ?_
              refine ⟨fun _ => HC3, ?_⟩
              first | refine hK _ _ ?_ | skip
              clear F0 F1 F2 F3 F4 F5 ee9 ee17 ee15 HCC HC2 HC3 hb7 hbV7 hb8
              simp only [Act.put, List.setIfInBounds_toArray, List.set_cons_succ, List.set_cons_zero]
              have HR8 : Hid (LR gb mb lb hb vb me nn (needN on od ou L) w V8) := HRT.out.more hbV8
              have HND : Hid _ := need_any [107] (q : Int) 0 V8 HR8.out.ga.gs (by decide)
              clear hbV8 HRT HBP HLK
              go_wp2_with fail
              refine Calls.mono HND.out ?_
              rintro e9 V9 ⟨rfl, hG9, hc9⟩
              have HR9 : Hid (LR gb mb lb hb vb me nn (needN [107] (q : Int) 0 (needN on od ou L)) w V9) := HR8.out.need [107] (q : Int) 0 hG9 hc9 (fun _ => rfl)
              clear hG9 hc9 HR8 HND
              go_wp2_with fail
              go_roundw
              case rel => exact ⟨q + 1, by omega, by omega, by go_num, _, HR9.out⟩
              case measure => simp [intOf]; omega
          · have hno : ¬ (okC od = true ∧ okC ou = true) := by simp only [okC, Bool.and_eq_true, decide_eq_true_eq]; omega
            go_upto_region 23 with fail
            rw [← hX6, ← hwb]
            clear hX6 hwb
            have hBwbX6 := hBwb
            have he : a1 = n1 ∧ a2 = n2 := by
              have := HAF.out
              rw [lk_need, if_neg (fun e => hno e.2), HKN.out] at this
              simpa [eq_comm] using this
            obtain ⟨e1, e2⟩ := he
            subst e1 e2
            have s0 : X6.cell? ⟨ab, 0, none⟩ = some (.int .i64 a1) := hBabX6.cell 0
            have s1 : X6.cell? ⟨ab, 1, none⟩ = some (.int .i64 a2) := hBabX6.cell 1
            have t0 : X6.cell? ⟨wb, 0, none⟩ = some (.int .i64 a1) := hBwbX6.cell 0
            have t1 : X6.cell? ⟨wb, 1, none⟩ = some (.int .i64 a2) := hBwbX6.cell 1
            have hsm : Calls Tryd.prog 15 #[.agg #[.int .i64 a1, .int .i64 a2], .agg #[.int .i64 a1, .int .i64 a2]] X6 fun r w' => r = .returned (.bool true) ∧ Below X6.heap.size X6 w' := by
              have := Led.same_any a1 a2 a1 a2 X6
              simpa using this
            have HSM : Hid _ := hsm
            clear hsm z4 z5 r0 r1 y3 hno
            go_wp2_with fail
            refine Calls.mono HSM.out ?_
            rintro e9 V6 ⟨rfl, hb6⟩
            have hRV6 : LR gb mb lb hb vb me nn (needN on od ou L) w V6 := hRX6.more hb6
            have hBpbV6 : Blk V6 pb #[.int .i64 k1, .int .i64 k2] 36 := hBpbX6.below hb6 hBpbX6.lt
            have HRT : Hid (LR gb mb lb hb vb me nn (needN on od ou L) w V6) := hRV6
            have HBP : Hid (Blk V6 pb #[.int .i64 k1, .int .i64 k2] 36) := hBpbV6
            have HLK : Hid (∀ W, Gs gb mb me nn (needN on od ou L) W → Calls Tryd.prog 12 #[.pointer (some ⟨gb, 0, none⟩), .string ⟨#[107]⟩] W fun e w' => e = .returned (.agg #[.int .i64 k1, .int .i64 k2]) ∧ Below W.heap.size W w') := fun W hG => by
              have := lacks_any [107] W hG
              rw [HKQ.out] at this
              exact this
            clear hb6 hRV3 hRV4 hRX5 hRX6 hRV6 hBpbV3 hBpbV4 hBpbX5 hBpbX6 hBpbV6 hBrbV3 hBrbV4 hBrbX5 hBrbX6 hBobV3 hBobV4 hBobX5 hBobX6 hBab hBabX5 hBabX6 hBwb hBwbX6 hbV4 hbX5 hbX6 HSM HR HAF HKQ s0 s1 t0 t1
            go_wp2_with fail
            rename_i K hK
            try rw [show ∀ a : Act, a.put none undef = a from fun _ => rfl]
            refine wp_region_mix (fun wq => Blk wq pb #[.int .i64 k1, .int .i64 k2] 36) (fun i => i == 1 || i == 3 || i == 99) 99 (by kernel_rfl) rfl (by kernel_rfl) (by kernel_rfl) (by kernel_rfl) ?_
            refine withFrP (N := 177) rfl ?_
            intro f0 F0 hff
            have ee9 : f0 9 = Value.pointer (some ⟨gb, 0, none⟩) := hff 9
            have ee17 : f0 17 = Value.pointer (some ⟨pb, 0, none⟩) := hff 17
            have ee15 : f0 15 = Value.int .i64 (q : Int) := hff 15
            clear hff
            have HCC : (fun wq => Blk wq pb #[.int .i64 k1, .int .i64 k2] 36) (({ V6 with drawn := V6.drawn + 1 } : World)) := HBP.out
            refine lyp F0 rfl HCC rfl (by omega) (wanted_none rfl) (v := Value.pointer (some ⟨gb, 0, none⟩)) (fun wr hwr => by simp only [execOp, (F0.eval 9 (by omega)).trans (show _ = Value.pointer (some ⟨gb, 0, none⟩) from by simp [upd, ee9, ee17, ee15])]; first | rfl | simp [go_sem]) fun F1 => ?_
            refine lcp F1 rfl HCC rfl (by omega) (wanted_none rfl) (g := 12) (args := #[Value.pointer (some ⟨gb, 0, none⟩), Value.string ⟨#[107]⟩]) (by simp only [execOp, resolve, invoke, List.map_toArray, List.map_cons, List.map_nil, (F1.eval 164 (by omega)).trans (show _ = Value.pointer (some ⟨gb, 0, none⟩) from by simp [upd, ee9, ee17, ee15])]; simp [go_sem, Act.eval]) (HLK.out (({ V6 with drawn := V6.drawn + 1 } : World)) (HRT.out.ga.gs.more (Below.drew (Below.refl _ _)))) ?_
            rintro e9 V7 ⟨rfl, hb7⟩
            have hbV7 : Below V6.heap.size V6 V7 := (show Below V6.heap.size V6 (({ V6 with drawn := V6.drawn + 1 } : World)) from Below.drew (Below.refl _ _)).trans hb7
            refine ⟨_, rfl, fun F2 => ?_⟩
            have HC2 : (fun wq => Blk wq pb #[.int .i64 k1, .int .i64 k2] 36) V7 := HBP.out.below hbV7 HBP.out.lt
            refine lyp F2 rfl HC2 rfl (by omega) (wanted_none rfl) (v := Value.agg #[.int .i64 k1, .int .i64 k2]) (fun wr hwr => by simp only [execOp, (F2.eval 17 (by omega)).trans (show _ = Value.pointer (some ⟨pb, 0, none⟩) from by simp [upd, ee9, ee17, ee15])]; simp [go_sem, show wr.cell? ⟨pb, 0, none⟩ = some (.int .i64 k1) from Blk.cell hwr 0, show wr.cell? ⟨pb, 1, none⟩ = some (.int .i64 k2) from Blk.cell hwr 1]) fun F3 => ?_
            refine lcp F3 rfl HC2 rfl (by omega) (wanted_none rfl) (g := 15) (args := #[Value.agg #[.int .i64 k1, .int .i64 k2], Value.agg #[.int .i64 k1, .int .i64 k2]]) (by simp only [execOp, resolve, invoke, List.map_toArray, List.map_cons, List.map_nil, (F3.eval 165 (by omega)).trans (show _ = Value.agg #[.int .i64 k1, .int .i64 k2] from by simp [upd, ee9, ee17, ee15]), (F3.eval 166 (by omega)).trans (show _ = Value.agg #[.int .i64 k1, .int .i64 k2] from by simp [upd, ee9, ee17, ee15])]; simp [go_sem, Act.eval]) (HSK.out V7) ?_
            rintro e9 V8 ⟨rfl, hb8⟩
            have hbV8 : Below V6.heap.size V6 V8 := hbV7.trans (hb8.mono hbV7.size)
            refine ⟨_, rfl, fun F4 => ?_⟩
            have HC3 : (fun wq => Blk wq pb #[.int .i64 k1, .int .i64 k2] 36) V8 := HBP.out.below hbV8 HBP.out.lt
            refine lyp F4 rfl HC3 rfl (by omega) (wanted_none rfl) (v := Value.bool false) (fun wr hwr => by simp only [execOp, (F4.eval 167 (by omega)).trans (show _ = Value.bool true from by simp [upd, ee9, ee17, ee15])]; simp [go_sem, Act.eval]) fun F5 => ?_
            refine ⟨fun _ => HC3, ?_⟩
            first | refine hK _ _ ?_ | skip
            clear F0 F1 F2 F3 F4 F5 ee9 ee17 ee15 HCC HC2 HC3 hb7 hbV7 hb8
            simp only [Act.put, List.setIfInBounds_toArray, List.set_cons_succ, List.set_cons_zero]
            have HR8 : Hid (LR gb mb lb hb vb me nn (needN on od ou L) w V8) := HRT.out.more hbV8
            have HND : Hid _ := need_any [107] (q : Int) 0 V8 HR8.out.ga.gs (by decide)
            clear hbV8 HRT HBP HLK
            go_wp2_with fail
            refine Calls.mono HND.out ?_
            rintro e9 V9 ⟨rfl, hG9, hc9⟩
            have HR9 : Hid (LR gb mb lb hb vb me nn (needN [107] (q : Int) 0 (needN on od ou L)) w V9) := HR8.out.need [107] (q : Int) 0 hG9 hc9 (fun _ => rfl)
            clear hG9 hc9 HR8 HND
            go_wp2_with fail
            go_roundw
            case rel => exact ⟨q + 1, by omega, by omega, by go_num, _, HR9.out⟩
            case measure => simp [intOf]; omega
    · obtain ⟨k1, k2, hkk⟩ : ∃ k1 k2, lk [107] L = (k1, k2) := ⟨_, _, rfl⟩
      have h20 : k2 = 0 := by have := HR.out.up; rw [hkk] at this; exact this
      subst h20
      have hl9 := lacks_any [107] wr HR.out.ga.gs
      rw [hkk] at hl9
      have HL9 : Hid (Calls Tryd.prog 12 #[.pointer (some ⟨gb, 0, none⟩), .string ⟨#[107]⟩] wr fun e w' => e = .returned (.agg #[.int .i64 k1, .int .i64 0]) ∧ Below wr.heap.size wr w') := hl9
      have HBW : Hid (Below w.heap.size w wr) := HR.out.bel
      clear hl9 hkk HR
      by_cases hq1 : q < K
      · have hq3 : ¬ q < 200 := fun e => hlt ⟨hq1, e⟩
        clear hlt
        go_wp2_with fail
        refine Calls.mono HL9.out ?_
        rintro e9 V9 ⟨rfl, hb9⟩
        have HB9 : Hid (Below w.heap.size w V9) := HBW.out.trans (hb9.mono HBW.out.size)
        clear hb9 HL9
        have hfl : ∀ W, (Instr.field 36 (.agg #[.int .i64 k1, .int .i64 0]) 1).run Tryd.prog W = .ok (.int .i64 0) W := fun W => by kernel_rfl
        go_wp2_with fail
        go_ret
        exact ⟨rfl, HB9.out⟩
      · clear hlt
        go_wp2_with fail
        refine Calls.mono HL9.out ?_
        rintro e9 V9 ⟨rfl, hb9⟩
        have HB9 : Hid (Below w.heap.size w V9) := HBW.out.trans (hb9.mono HBW.out.size)
        clear hb9 HL9
        have hfl : ∀ W, (Instr.field 36 (.agg #[.int .i64 k1, .int .i64 0]) 1).run Tryd.prog W = .ok (.int .i64 0) W := fun W => by kernel_rfl
        go_wp2_with fail
        go_ret
        exact ⟨rfl, HB9.out⟩
end Go.Proofs.YtjmbhaoehfdpoaaDoor
