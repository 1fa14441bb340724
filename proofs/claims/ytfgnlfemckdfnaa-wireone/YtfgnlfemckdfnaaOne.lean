import Derived.Test.YtfgnlfemckdfnaaOne0
namespace Go.Proofs.Ytfgnlfemckdfnaa
open Go.RowKit Go.PlainAid
set_option pp.maxSteps 300000

theorem Fr.ofLit {N : Nat} (t : Array Value) (h : t.size = N) : Fr N { tmps := t, defers := [] } (fun j => t.getD j undef) := by
  refine ⟨h, rfl, fun j hj => ?_⟩
  simp [Array.getD, h, hj]

theorem eq29_run {ev : Operand → Value} {o : Oper} {t' : TypeId} {x y : Operand} {w : World} {p q z : Int} {i : Int} {r' : Bool} (r : o.op = .binOp .eql 29 x y t') (hx : ev x = .agg #[.int .i64 p, .int .i64 q]) (hy : ev y = .agg #[.int .i64 z, .int .i64 i]) (h : (p == z && q == i) = r') : (execOp ev o).run Try.prog w = .ok (.value (.bool r')) w := by
  subst h
  simp only [execOp, r, hx, hy, Sem.run_bind, eql29]
  simp [go_sem]
theorem eq31_run {ev : Operand → Value} {o : Oper} {t' : TypeId} {x y : Operand} {w : World} {k a b : Int} {s : List UInt8} {r' : Bool} (r : o.op = .binOp .eql 31 x y t') (hx : ev x = .agg #[.int .i64 k, .string ⟨s.toArray⟩, .int .i64 a, .int .i64 b]) (hy : ev y = .agg #[.int .i64 0, .string ⟨([] : List UInt8).toArray⟩, .int .i64 0, .int .i64 0]) (h : (k == 0 && s == [] && a == 0 && b == 0) = r') : (execOp ev o).run Try.prog w = .ok (.value (.bool r')) w := by
  subst h
  simp only [execOp, r, hx, hy, Sem.run_bind, eql31]
  simp [go_sem]
theorem eq55_run {ev : Operand → Value} {o : Oper} {t' : TypeId} {x y : Operand} {w : World} {k a b c : Int} {r' : Bool} (r : o.op = .binOp .eql 55 x y t') (hx : ev x = .agg #[.int .i64 k, .int .i64 a, .int .i64 b, .int .i64 c]) (hy : ev y = .agg #[.int .i64 0, .int .i64 0, .int .i64 0, .int .i64 0]) (h : (k == 0 && a == 0 && b == 0 && c == 0) = r') : (execOp ev o).run Try.prog w = .ok (.value (.bool r')) w := by
  subst h
  simp only [execOp, r, hx, hy, Sem.run_bind, eql55]
  simp [go_sem]

set_option maxRecDepth 100000 in
set_option maxHeartbeats 3200000 in
theorem one_law (ao : Option Addr) (n cap : Nat) (xs : List UInt8) (w : World) (hx : xs.length = n) (hnil : ao = none → n = 0 ∧ cap = 0) (hf : From w ao xs) (hn : n ≤ 140737488351232) :
    Calls Try.prog 3 #[.slice ao n cap] w (fun e w' => e = .returned (.bool true) ∧ Below w.heap.size w w') := by
  go_enter Try.func3, Try.ntmps3
  go_wp2_with (go_at_call 9; refine (able_any _).mono ?_; rintro e1 w1 ⟨rfl, hb1⟩)
  have hf1 := From.below hf hb1
  refine (lent_any ao n cap xs w1 hx hnil hf1 hn).mono ?_
  rintro e2 w2 ⟨g2, c2, rfl, hc2, hg2, hl2, hs2, hb2⟩
  have hB2 := hb1.trans (hb2.mono hb1.size)
  have hf2 := From.below hf1 hb2
  clear hf hf1 hb1 hb2
  go_wp2_with fail
  refine (decode_any g2 0 n c2 xs w2 hx hs2 hl2 (by omega) (by omega)).mono ?_
  intro e3 w3 h3
  obtain ⟨hb3, m, vo, vc, at', er, rfl, hv3, ht⟩ := dec_took h3
  have hB3 := hB2.trans (hb3.mono hB2.size)
  have hf3 := From.below hf2 hb3
  obtain ⟨hvf, hvb⟩ := VRow.vfrom hv3
  clear h3 hb3 hf2 hB2 hs2 hl2 hg2 hc2
  have hall : (msgCells m (.slice vo m.views.length vc)).all (·.oneCell') = true := by simp [msgCells, Value.oneCell', Str]
  have hsm := same_any m Msg.zero vo none vc 0
  generalize hD : msgCells m (.slice vo m.views.length vc) = D at *
  have HD : Hid _ := hD
  have hsz : D.size = 20 := by rw [← hD]; rfl
  have hi35 : (Try.prog.info? 35).map (·.size) = some D.size := by rw [hsz]; kernel_rfl
  clear hD
  have hB0 : Blk (w3.alloc (.cells zeroC 35)) w3.heap.size zeroC 35 := heap_alloc_new w3 _
  have hBm := setRow_blk (cs := D) hB0
  have hb4 : Below w3.heap.size w3 ((w3.alloc (.cells zeroC 35)).setRow w3.heap.size D) := (show Below w3.heap.size w3 (w3.alloc _) from by go_grown).trans ⟨rfl, rfl, rfl, by simp [World.setRow], fun k hk => setRow_other _ _ _ _ (by omega)⟩
  have HV : Hid _ := And.intro hvf (And.intro hvb hv3)
  have HT : Hid _ := ht
  clear hvf hvb hv3 ht
  go_wp2_with (first | (refine wpList_store_row rfl 35 (.tmp 3) (.tmp 29) rfl w3.heap.size D rfl rfl 35 zeroC hB0 hi35 (by rw [hsz]; rfl) hall ?_) | (refine wpList_load_row rfl 35 (.tmp 3) rfl w3.heap.size rfl 35 D (0, 0) _ hBm Try.underlying35 rfl hi35 ?_) | fail)
  rw [zero_is]
  have hf4 := From.below hf3 hb4
  have hB4 := hB3.trans (hb4.mono hB3.size)
  have hvf : VFrom ((w3.alloc (.cells zeroC 35)).setRow w3.heap.size D) vo m.views := HV.out.1.keep fun b o e => hb4.block b (HV.out.2.1 b o e)
  have hvb : ∀ b o, vo = some ⟨b, o, none⟩ → b < ((w3.alloc (.cells zeroC 35)).setRow w3.heap.size D).heap.size := fun b o e => by have := HV.out.2.1 b o e; have := hb4.size; omega
  generalize (w3.alloc (.cells zeroC 35)).setRow w3.heap.size D = W4 at *
  generalize hg3 : w3.heap.size = g3 at *
  clear hB0 hb4 hB3 hf3 hg3
  have hvl : m.views.length ≤ 140000000000000 := by
    rcases HT.out with ⟨_, _, h⟩ | ⟨_, _, _, h⟩
    · have := (fit_of h).2; omega
    · rw [h]; decide
  refine (hsm W4 hvf (by intro i x h; cases h) hvb (by intro b o h; cases h) hvl).mono ?_
  rintro e5 w5 ⟨rfl, hb5⟩
  have hz : m = Msg.zero → sameB m Msg.zero = true := (sameB_iff m Msg.zero).2
  have HO : Hid _ := Took.one HT.out hx hz
  clear hz hsm hvl
  generalize sameB m Msg.zero = z at *
  go_wp2_with (go_at_call 12; refine (one_any at' er (n : Int) z _).mono ?_; rintro e6 w6 ⟨rfl, rfl⟩; rw [HO.out]; generalize hTK : Value.bool (er == 0) = tk; have HTK : Hid _ := hTK; clear hTK)
  rename_i K hK
  have hrest : ∀ (a : Act) (f : Nat → Value) (W : World), Fr 179 a f → f 0 = .slice ao n cap → From W ao xs → Below w.heap.size w W → K a W := by
    intro a f W hF h0 hfW hBW
    apply hK
    rw [hF.lit]
    clear hF hK
    rw [show ((List.range 179).map f).toArray = #[f 0, f 1, f 2, f 3, f 4, f 5, f 6, f 7, f 8, f 9, f 10, f 11, f 12, f 13, f 14, f 15, f 16, f 17, f 18, f 19, f 20, f 21, f 22, f 23, f 24, f 25, f 26, f 27, f 28, f 29, f 30, f 31, f 32, f 33, f 34, f 35, f 36, f 37, f 38, f 39, f 40, f 41, f 42, f 43, f 44, f 45, f 46, f 47, f 48, f 49, f 50, f 51, f 52, f 53, f 54, f 55, f 56, f 57, f 58, f 59, f 60, f 61, f 62, f 63, f 64, f 65, f 66, f 67, f 68, f 69, f 70, f 71, f 72, f 73, f 74, f 75, f 76, f 77, f 78, f 79, f 80, f 81, f 82, f 83, f 84, f 85, f 86, f 87, f 88, f 89, f 90, f 91, f 92, f 93, f 94, f 95, f 96, f 97, f 98, f 99, f 100, f 101, f 102, f 103, f 104, f 105, f 106, f 107, f 108, f 109, f 110, f 111, f 112, f 113, f 114, f 115, f 116, f 117, f 118, f 119, f 120, f 121, f 122, f 123, f 124, f 125, f 126, f 127, f 128, f 129, f 130, f 131, f 132, f 133, f 134, f 135, f 136, f 137, f 138, f 139, f 140, f 141, f 142, f 143, f 144, f 145, f 146, f 147, f 148, f 149, f 150, f 151, f 152, f 153, f 154, f 155, f 156, f 157, f 158, f 159, f 160, f 161, f 162, f 163, f 164, f 165, f 166, f 167, f 168, f 169, f 170, f 171, f 172, f 173, f 174, f 175, f 176, f 177, f 178] from rfl, h0]
    go_wp2_with fail
    refine (lent_any ao n cap xs W hx hnil hfW hn).mono ?_
    rintro e2 w2 ⟨g2, c2, rfl, hc2, hg2, hl2, hs2, hb2⟩
    have hB2 := hBW.trans (hb2.mono hBW.size)
    have hf2 := From.below hfW hb2
    go_wp2_with fail
    refine (decodeSeg_any g2 0 n c2 xs w2 hx hs2 hl2 (by omega) (by omega)).mono ?_
    intro e3 w3 h3
    obtain ⟨hb3, m, vo, vc, at', er, rfl, hv3, ht⟩ := decS_took h3
    have hB3 := hB2.trans (hb3.mono hB2.size)
    have hf3 := From.below hf2 hb3
    have HT : Hid _ := ht
    have HVB : Hid _ := (show ∀ b o, vo = some ⟨b, o, none⟩ → b < w3.heap.size from fun b o e => by subst e; exact (hv3.lt b rfl).2)
    obtain ⟨vao, vcap, hve, hvc, hvn, hvs, _⟩ := own_from hv3
    cases hve
    clear h3 hb3 hf2 hB2 hs2 hl2 hg2 hc2 hb2 ht hv3 hfW hBW
    have hall2 : (segCells m.src m.dst m.seq m.ack (.slice vo m.data.length vc)).all (·.oneCell') = true := by simp [segCells, Value.oneCell']
    have hsm := sameSeg_any m ⟨0, 0, 0, 0, []⟩ vo none vc 0
    generalize hE : segCells m.src m.dst m.seq m.ack (.slice vo m.data.length vc) = E at *
    have HE : Hid _ := hE
    have hsz2 : E.size = 5 := by rw [← hE]; rfl
    have hi46 : (Try.prog.info? 46).map (·.size) = some E.size := by rw [hsz2]; kernel_rfl
    clear hE
    have hB0 : Blk (w3.alloc (.cells zeroS 46)) w3.heap.size zeroS 46 := heap_alloc_new w3 _
    have hBm := setRow_blk (cs := E) hB0
    have hb4 : Below w3.heap.size w3 ((w3.alloc (.cells zeroS 46)).setRow w3.heap.size E) := (show Below w3.heap.size w3 (w3.alloc _) from by go_grown).trans ⟨rfl, rfl, rfl, by simp [World.setRow], fun k hk => setRow_other _ _ _ _ (by omega)⟩
    go_wp2_with (first | (refine wpList_store_row rfl 46 (.tmp 10) (.tmp 66) rfl w3.heap.size E rfl rfl 46 zeroS hB0 hi46 (by rw [hsz2]; rfl) hall2 ?_) | (refine wpList_load_row rfl 46 (.tmp 10) rfl w3.heap.size rfl 46 E (0, 0) _ hBm Try.underlying46 rfl hi46 ?_) | fail)
    rw [zeroS_is]
    have hf4 := From.below hf3 hb4
    have hB4 := hB3.trans (hb4.mono hB3.size)
    have hvs4 := From.below hvs hb4
    have hvb : ∀ b o, vo = some ⟨b, o, none⟩ → b < w3.heap.size := HVB.out
    have hvb4 : ∀ b o, vo = some ⟨b, o, none⟩ → b < ((w3.alloc (.cells zeroS 46)).setRow w3.heap.size E).heap.size := fun b o e => by have := hvb b o e; have := hb4.size; omega
    generalize (w3.alloc (.cells zeroS 46)).setRow w3.heap.size E = W4 at *
    generalize hg3 : w3.heap.size = g3 at *
    clear hB0 hb4 hB3 hf3 hg3 hvb hvs
    refine (hsm W4 hvs4 (by intro h; exact absurd h (by decide)) hvb4 (by intro b o h; cases h)).mono ?_
    rintro e5 w5 ⟨rfl, hb5⟩
    have hz : m = ⟨0, 0, 0, 0, []⟩ → segB m ⟨0, 0, 0, 0, []⟩ = true := (segB_iff m _).2
    have HO : Hid _ := Took.one HT.out hx hz
    clear hz hsm
    generalize segB m ⟨0, 0, 0, 0, []⟩ = z at *
    go_wp2_with (go_at_call 12; refine (one_any at' er (n : Int) z _).mono ?_; rintro e6 w6 ⟨rfl, rfl⟩; rw [HO.out]; generalize hTK : Value.bool (er == 0) = tk; have HTK : Hid _ := hTK; clear hTK)
    rename_i K2 hK2
    have hrest2 : ∀ (a : Act) (f : Nat → Value) (W : World), Fr 179 a f → f 0 = .slice ao n cap → From W ao xs → Below w.heap.size w W → K2 a W := by
      intro a f W hF h0 hfW hBW
      apply hK2
      rw [hF.lit]
      clear hF hK2
      rw [show ((List.range 179).map f).toArray = #[f 0, f 1, f 2, f 3, f 4, f 5, f 6, f 7, f 8, f 9, f 10, f 11, f 12, f 13, f 14, f 15, f 16, f 17, f 18, f 19, f 20, f 21, f 22, f 23, f 24, f 25, f 26, f 27, f 28, f 29, f 30, f 31, f 32, f 33, f 34, f 35, f 36, f 37, f 38, f 39, f 40, f 41, f 42, f 43, f 44, f 45, f 46, f 47, f 48, f 49, f 50, f 51, f 52, f 53, f 54, f 55, f 56, f 57, f 58, f 59, f 60, f 61, f 62, f 63, f 64, f 65, f 66, f 67, f 68, f 69, f 70, f 71, f 72, f 73, f 74, f 75, f 76, f 77, f 78, f 79, f 80, f 81, f 82, f 83, f 84, f 85, f 86, f 87, f 88, f 89, f 90, f 91, f 92, f 93, f 94, f 95, f 96, f 97, f 98, f 99, f 100, f 101, f 102, f 103, f 104, f 105, f 106, f 107, f 108, f 109, f 110, f 111, f 112, f 113, f 114, f 115, f 116, f 117, f 118, f 119, f 120, f 121, f 122, f 123, f 124, f 125, f 126, f 127, f 128, f 129, f 130, f 131, f 132, f 133, f 134, f 135, f 136, f 137, f 138, f 139, f 140, f 141, f 142, f 143, f 144, f 145, f 146, f 147, f 148, f 149, f 150, f 151, f 152, f 153, f 154, f 155, f 156, f 157, f 158, f 159, f 160, f 161, f 162, f 163, f 164, f 165, f 166, f 167, f 168, f 169, f 170, f 171, f 172, f 173, f 174, f 175, f 176, f 177, f 178] from rfl, h0]
      go_wp2_with fail
      refine (lent_any ao n cap xs W hx hnil hfW hn).mono ?_
      rintro e2 w2 ⟨g2, c2, rfl, hc2, hg2, hl2, hs2, hb2⟩
      have hB2 := hBW.trans (hb2.mono hBW.size)
      have hf2 := From.below hfW hb2
      go_wp2_with fail
      refine (decodeReq_any g2 0 n c2 xs w2 hx hs2 hl2 (by omega) (by omega)).mono ?_
      intro e3 w3 h3
      obtain ⟨hb3, ⟨qs, qi⟩, ⟨ok', on, oa, ob⟩, at', er, rfl, ht⟩ := decQ_took h3
      have hB3 := hB2.trans (hb3.mono hB2.size)
      have hf3 := From.below hf2 hb3
      have HT : Hid _ := ht
      clear h3 hb3 hf2 hB2 hs2 hl2 hg2 hc2 hb2 ht hfW hBW
      have hz : ((qs, qi), ok', on, oa, ob) = (((0 : Int), (0 : Int)), (0 : Int), ([] : List UInt8), (0 : Int), (0 : Int)) → ((qs == 0 && qi == 0) && (ok' == 0 && on == [] && oa == 0 && ob == 0)) = true := by
        intro h
        simp only [Prod.mk.injEq] at h
        obtain ⟨⟨rfl, rfl⟩, rfl, rfl, rfl, rfl⟩ := h
        rfl
      simp only [callCells, opCells, Str]
      generalize hc1 : (qs == 0 && qi == 0) = z1 at hz
      generalize hc2 : (ok' == 0 && on == [] && oa == 0 && ob == 0) = z2 at hz
      have HC1 : Hid _ := hc1
      have HC2 : Hid _ := hc2
      have hO := Took.one HT.out hx hz
      clear hz hc1 hc2
      cases z1
      all_goals (
        simp only [Bool.true_and, Bool.false_and] at hO
        have HO : Hid _ := hO
        clear hO
        go_wp2_with (first | (refine st_yes rfl (eq29_run rfl rfl rfl HC1.out) ?_) | (refine st_yes rfl (eq31_run rfl rfl rfl HC2.out) ?_) | (go_at_call 12; refine (one_any at' er (n : Int) _ _).mono ?_; rintro e6 w6 ⟨rfl, rfl⟩; rw [HO.out]; generalize hTK : Value.bool (er == 0) = tk; have HTK : Hid _ := hTK; clear hTK))
        rename_i K3 hK3
        have hrest3 : ∀ (a : Act) (f : Nat → Value) (W : World), Fr 179 a f → f 0 = .slice ao n cap → From W ao xs → Below w.heap.size w W → K3 a W := by
          intro a f W hF h0 hfW hBW
          apply hK3
          rw [hF.lit]
          clear hF hK3
          rw [show ((List.range 179).map f).toArray = #[f 0, f 1, f 2, f 3, f 4, f 5, f 6, f 7, f 8, f 9, f 10, f 11, f 12, f 13, f 14, f 15, f 16, f 17, f 18, f 19, f 20, f 21, f 22, f 23, f 24, f 25, f 26, f 27, f 28, f 29, f 30, f 31, f 32, f 33, f 34, f 35, f 36, f 37, f 38, f 39, f 40, f 41, f 42, f 43, f 44, f 45, f 46, f 47, f 48, f 49, f 50, f 51, f 52, f 53, f 54, f 55, f 56, f 57, f 58, f 59, f 60, f 61, f 62, f 63, f 64, f 65, f 66, f 67, f 68, f 69, f 70, f 71, f 72, f 73, f 74, f 75, f 76, f 77, f 78, f 79, f 80, f 81, f 82, f 83, f 84, f 85, f 86, f 87, f 88, f 89, f 90, f 91, f 92, f 93, f 94, f 95, f 96, f 97, f 98, f 99, f 100, f 101, f 102, f 103, f 104, f 105, f 106, f 107, f 108, f 109, f 110, f 111, f 112, f 113, f 114, f 115, f 116, f 117, f 118, f 119, f 120, f 121, f 122, f 123, f 124, f 125, f 126, f 127, f 128, f 129, f 130, f 131, f 132, f 133, f 134, f 135, f 136, f 137, f 138, f 139, f 140, f 141, f 142, f 143, f 144, f 145, f 146, f 147, f 148, f 149, f 150, f 151, f 152, f 153, f 154, f 155, f 156, f 157, f 158, f 159, f 160, f 161, f 162, f 163, f 164, f 165, f 166, f 167, f 168, f 169, f 170, f 171, f 172, f 173, f 174, f 175, f 176, f 177, f 178] from rfl, h0]
          go_wp2_with fail
          refine (lent_any ao n cap xs W hx hnil hfW hn).mono ?_
          rintro e2 w2 ⟨g2, c2, rfl, hc2, hg2, hl2, hs2, hb2⟩
          have hB2 := hBW.trans (hb2.mono hBW.size)
          have hf2 := From.below hfW hb2
          go_wp2_with fail
          refine (decodeRep_any g2 0 n c2 xs w2 hx hs2 hl2 (by omega) (by omega)).mono ?_
          intro e3 w3 h3
          obtain ⟨hb3, ⟨⟨rs, ri⟩, re, rv⟩, at', er, rfl, ht⟩ := decR_took h3
          have hB3 := hB2.trans (hb3.mono hB2.size)
          have hf3 := From.below hf2 hb3
          clear h3 hb3 hf2 hB2 hs2 hl2 hg2 hc2 hb2 hfW hBW
          have hz : ((rs, ri), re, rv) = (((0 : Int), (0 : Int)), (0 : Int), (0 : Int)) → (rs == 0 && ri == 0 && re == 0 && rv == 0) = true := by
            intro h
            simp only [Prod.mk.injEq] at h
            obtain ⟨⟨rfl, rfl⟩, rfl, rfl⟩ := h
            rfl
          generalize hc1 : (rs == 0 && ri == 0 && re == 0 && rv == 0) = z at hz
          have HC : Hid _ := hc1
          have HO : Hid _ := Took.one ht hx hz
          clear hz hc1
          have hb5 : Below w3.heap.size w3 (w3.alloc (.cells #[.int .i64 rs, .int .i64 ri, .int .i64 re, .int .i64 rv] 55)) := by go_grown
          have hf5 := From.below hf3 hb5
          have hB5 := hB3.trans (hb5.mono hB3.size)
          have hrv : (-9223372036854775808 : Int) ≤ rv ∧ rv < 9223372036854775808 := by
            rcases ht with ⟨_, _, h⟩ | ⟨_, _, _, h⟩
            · exact rep_some h
            · simp only [Prod.mk.injEq] at h
              omega
          have hen := encodeRep_any ((rs, ri), re, rv) (w3.alloc (.cells #[.int .i64 rs, .int .i64 ri, .int .i64 re, .int .i64 rv] 55)) hrv.1 hrv.2
          simp only [repCells] at hen ⊢
          clear hrv hb5
          rcases ht with ⟨rfl, rfl, hwr⟩ | ⟨rfl, h1, h2, h3⟩
          · rw [hwr] at hen
            have H5 : Hid _ := And.intro hf5 hB5
            have HEN : Hid _ := hen
            clear hf5 hB5 hf3 hB3 hen hwr
            go_wp2_with (first | (refine st_yes rfl (eq55_run rfl rfl rfl HC.out) ?_) | (go_at_call 12; refine (one_any 0 0 (n : Int) _ _).mono ?_; rintro e6 w6 ⟨rfl, rfl⟩; rw [HO.out]) | (go_at_call 22; refine Calls.mono HEN.out ?_; rintro e7 w7 ⟨hb7, v7, rfl, hv7⟩; obtain ⟨ao7, cap7, rfl, _, _, hs7, _⟩ := own_from hv7; obtain ⟨hf5, hB5⟩ := H5.out) | (go_at_call 15; refine (alike_any ao7 ao n n cap7 cap xs xs w7 hx hx hs7 (From.below hf5 hb7)).mono ?_; rw [show decide (xs = xs) = true from by simp]; rintro e8 w8 ⟨rfl, rfl⟩))
            go_ret
            exact ⟨rfl, hB5.trans (hb7.mono hB5.size)⟩
          · have H5 : Hid _ := And.intro hf5 (And.intro hB5 (And.intro h1 h2))
            simp only [Prod.mk.injEq] at h3
            obtain ⟨⟨rfl, rfl⟩, rfl, rfl⟩ := h3
            have hwr : reply.wr ((0, 0), 0, 0) = none := by decide
            rw [hwr] at hen
            have HEN : Hid _ := hen
            clear hf5 hB5 hf3 hB3 hen hwr h1 h2
            go_wp2_with (first | (refine st_yes rfl (eq55_run rfl rfl rfl HC.out) ?_) | (go_at_call 12; refine (one_any at' 20 (n : Int) _ _).mono ?_; rintro e6 w6 ⟨rfl, rfl⟩; rw [HO.out]) | (go_at_call 22; refine Calls.mono HEN.out ?_; rintro e7 w7 ⟨hb7, rfl⟩))
            go_ret
            exact ⟨rfl, H5.out.2.1.trans (hb7.mono H5.out.2.1.size)⟩
        have HR : Hid _ := hrest3
        clear hK3 hrest3
        rcases HT.out with ⟨her, _, hwr⟩ | ⟨her, _, _, _⟩
        · obtain rfl : tk = .bool true := by rw [← HTK.out, her]; rfl
          have hq := req_some hwr
          have hb6 : Below w3.heap.size w3 ((w3.alloc (.cells #[.int .i64 qs, .int .i64 qi] 29)).alloc (.cells #[.int .i64 ok', .string ⟨on.toArray⟩, .int .i64 oa, .int .i64 ob] 31)) := by go_grown
          have hf6 := From.below hf3 hb6
          have hB6 := hB3.trans (hb6.mono hB3.size)
          have hen := encodeReq_any (qs, qi) (ok', on, oa, ob) ((w3.alloc (.cells #[.int .i64 qs, .int .i64 qi] 29)).alloc (.cells #[.int .i64 ok', .string ⟨on.toArray⟩, .int .i64 oa, .int .i64 ob] 31)) (by have := hq.1; omega) hq.2.1 hq.2.2.1 hq.2.2.2.1 hq.2.2.2.2
          rw [hwr] at hen
          simp only [callCells, opCells, Str] at hen
          have HEN : Hid _ := hen
          have H6 : Hid _ := And.intro hf6 hB6
          clear HTK hq hen hf6 hB6 hb6
          go_wp2_with (go_at_call 20; refine Calls.mono HEN.out ?_; rintro e7 w7 ⟨hb7, v7, rfl, hv7⟩; obtain ⟨ao7, cap7, rfl, _, _, hs7, _⟩ := own_from hv7)
          obtain ⟨hf6, hB6⟩ := H6.out
          refine (alike_any ao7 ao n n cap7 cap xs xs w7 hx hx hs7 (From.below hf6 hb7)).mono ?_
          rw [show decide (xs = xs) = true from by simp]
          rintro e8 w8 ⟨rfl, rfl⟩
          go_wp2_with fail
          exact HR.out _ _ _ (Fr.ofLit _ rfl) rfl (From.below hf6 hb7) (hB6.trans (hb7.mono hB6.size))
        · obtain rfl : tk = .bool false := by rw [← HTK.out, her]; rfl
          have hb6 : Below w3.heap.size w3 ((w3.alloc (.cells #[.int .i64 qs, .int .i64 qi] 29)).alloc (.cells #[.int .i64 ok', .string ⟨on.toArray⟩, .int .i64 oa, .int .i64 ob] 31)) := by go_grown
          have hf6 := From.below hf3 hb6
          have hB6 := hB3.trans (hb6.mono hB3.size)
          have H6 : Hid _ := And.intro hf6 hB6
          clear HTK hf6 hB6 hb6
          go_wp2_with fail
          exact HR.out _ _ _ (Fr.ofLit _ rfl) rfl H6.out.1 H6.out.2)
    have hBm6 : Blk w6 g3 E 46 := (hb5.block g3 hBm.lt).trans hBm
    have hf6 := From.below hf4 hb5
    have hB6 := hB4.trans (hb5.mono hB4.size)
    have hvf6 := From.below hvs4 hb5
    have hvb6 : ∀ b o, vo = some ⟨b, o, none⟩ → b < w6.heap.size := fun b o e => by have := hvb4 b o e; have := hb5.size; omega
    have HR : Hid _ := hrest2
    clear hK2 hrest2 hBm hf4 hB4 hvs4 hvb4 hb5
    rcases HT.out with ⟨her, _, hwr⟩ | ⟨her, _, _, _⟩
    · obtain rfl : tk = .bool true := by rw [← HTK.out, her]; rfl
      have hen := encodeSeg_any m vo vc w6 hvn hvf6 hvb6 (by have := seg_some hwr; omega)
      rw [hwr, HE.out] at hen
      clear HTK
      go_wp2_with (first | (refine wpList_load_row rfl 46 (.tmp 10) rfl g3 rfl 46 E (0, 0) _ hBm6 Try.underlying46 rfl hi46 ?_) | (go_at_call 18; refine hen.mono ?_; rintro e7 w7 ⟨hb7, v7, rfl, hv7⟩; obtain ⟨ao7, cap7, rfl, _, _, hs7, _⟩ := own_from hv7) | fail)
      refine (alike_any ao7 ao n n cap7 cap xs xs w7 hx hx hs7 (From.below hf6 hb7)).mono ?_
      rw [show decide (xs = xs) = true from by simp]
      rintro e8 w8 ⟨rfl, rfl⟩
      go_wp2_with fail
      exact HR.out _ _ _ (Fr.ofLit _ rfl) rfl (From.below hf6 hb7) (hB6.trans (hb7.mono hB6.size))
    · obtain rfl : tk = .bool false := by rw [← HTK.out, her]; rfl
      clear HTK
      go_wp2_with fail
      exact HR.out _ _ _ (Fr.ofLit _ rfl) rfl hf6 hB6
  have hBm6 : Blk w6 g3 D 35 := (hb5.block g3 hBm.lt).trans hBm
  have hf6 := From.below hf4 hb5
  have hB6 := hB4.trans (hb5.mono hB4.size)
  have hvf6 : VFrom w6 vo m.views := hvf.keep fun b o e => hb5.block b (hvb b o e)
  have hvb6 : ∀ b o, vo = some ⟨b, o, none⟩ → b < w6.heap.size := fun b o e => by have := hvb b o e; have := hb5.size; omega
  have HR : Hid _ := hrest
  clear hK hrest hBm hf4 hB4 hvf hvb hb5
  rcases HT.out with ⟨her, _, hwr⟩ | ⟨her, _, _, _⟩
  · obtain rfl : tk = .bool true := by rw [← HTK.out, her]; rfl
    have hen := encode_any m vo vc w6 (fit_of hwr).1 hvf6 hvb6
    rw [← enc_is, hwr, HD.out] at hen
    clear HTK
    go_wp2_with (first | (refine wpList_load_row rfl 35 (.tmp 3) rfl g3 rfl 35 D (0, 0) _ hBm6 Try.underlying35 rfl hi35 ?_) | (go_at_call 14; refine hen.mono ?_; rintro e7 w7 ⟨hb7, v7, rfl, hv7⟩; obtain ⟨ao7, cap7, rfl, _, _, hs7, _⟩ := own_from hv7) | fail)
    refine (alike_any ao7 ao n n cap7 cap xs xs w7 hx hx hs7 (From.below hf6 hb7)).mono ?_
    rw [show decide (xs = xs) = true from by simp]
    rintro e8 w8 ⟨rfl, rfl⟩
    go_wp2_with fail
    exact HR.out _ _ _ (Fr.ofLit _ rfl) rfl (From.below hf6 hb7) (hB6.trans (hb7.mono hB6.size))
  · obtain rfl : tk = .bool false := by rw [← HTK.out, her]; rfl
    clear HTK
    go_wp2_with fail
    exact HR.out _ _ _ (Fr.ofLit _ rfl) rfl hf6 hB6
end Go.Proofs.Ytfgnlfemckdfnaa
