import Derived.Test.YtbjlaloofpdbfaaArgs
import Derived.Test.YtbjlaloofpdbfaaJoinB
import Derived.Test.YtbjlaloofpdbfaaQ5
namespace Go.Proofs.Ytbjlaloofpdbfaa
open Go.RowKit Go.PlainAid
set_option linter.unusedVariables false
set_option linter.unusedSimpArgs false
set_option maxRecDepth 100000 in
set_option maxHeartbeats 6400000 in
theorem fits_any (ao : Option Addr) (N cap : Nat) (os : List LO) (w : World) (hl : os.length = N) (hnc : N ≤ cap) (hcm : cap ≤ maxLen) (hok : ∀ o ∈ os, o.ok)
    (hat : 0 < N → ∃ b off, ao = some ⟨b, off, none⟩ ∧ ∀ i o, os[i]? = some o → RowAt w b (off + i * 8) o.row) :
    Calls Try.prog 26 #[.slice ao N cap] w fun e w' => ∃ b, e = .returned (.bool b) ∧ (b = true → N ≤ 300) ∧ ∃ q, w' = w.drewN q := by
  unfold maxLen at hcm
  have HAT : Hid (0 < N → ∃ b off, ao = some ⟨b, off, none⟩ ∧ ∀ i o, os[i]? = some o → RowAt w b (off + i * 8) o.row) := hat
  have HOK : Hid (∀ o ∈ os, o.ok) := hok
  have HL0 : Hid (os.length = N) := hl
  clear hat hok hl
  go_enter Try.func26, Try.ntmps26
  go_wp2_with fail
  go_loopw [3, 4] (fun s3 s4 wr => ∃ k q : Nat, k ≤ N ∧ s4 = .int .i64 k ∧ (∃ n : Int, s3 = .int .i64 n ∧ -9223372036854775808 ≤ n ∧ n ≤ 9223372036854775807) ∧ wr = w.drewN q) (fun _ s4 _ => N - (intOf s4).toNat)
  case atStart => exact ⟨0, 0, Nat.zero_le _, rfl, ⟨0, rfl, by omega, by omega⟩, rfl⟩
  case round =>
    obtain ⟨k, q, hk, rfl, ⟨n, rfl, hn1, hn2⟩, rfl⟩ := hrel
    by_cases hlt : k < N
    · have hkb : k < os.length := by have := HL0.out; omega
      obtain ⟨x, hx⟩ : ∃ x, x = os[k] := ⟨_, rfl⟩
      have hxo : x.ok := HOK.out x (by rw [hx]; exact List.getElem_mem _)
      obtain ⟨b, off, hao, hcell⟩ := HAT.out (by omega)
      subst hao
      have hrow := hcell k x (by rw [hx]; exact List.getElem?_eq_getElem hkb)
      have y1 : w.cell? ⟨b, off + k * 8 + 1, none⟩ = some (.string ⟨x.n.toArray⟩) := hrow 1 _ rfl
      have y5 : w.cell? ⟨b, off + k * 8 + 5, none⟩ = some (.string ⟨x.o.n.toArray⟩) := hrow 5 _ rfl
      have x1 : (w.drewN q).cell? ⟨b, off + k * 8 + 1, none⟩ = some (.string ⟨x.n.toArray⟩) := hrow 1 _ rfl
      have x5 : (w.drewN q).cell? ⟨b, off + k * 8 + 5, none⟩ = some (.string ⟨x.o.n.toArray⟩) := hrow 5 _ rfl
      have hln := hxo.2.1
      have hlo := hxo.2.2.2.2.2.1
      clear hrow hcell hkb hx hxo
      go_wp2_with fail
      go_quiet (fail)
      go_wp2_with fail
      go_roundw
      case rel => exact ⟨k + 1, _, by omega, by go_num, ⟨_, rfl, by unfold wrap64; omega, by unfold wrap64; omega⟩, rfl⟩
      case measure => simp [intOf]; omega
    · by_cases h3 : N ≤ 300
      · by_cases h6 : n ≤ 65536
        · go_wp2_with fail
          go_ret
          exact ⟨_, rfl, fun _ => h3, q, rfl⟩
        · go_wp2_with fail
          go_ret
          exact ⟨Or.inl rfl, q, rfl⟩
      · go_wp2_with fail
        go_ret
        exact ⟨rfl, q, rfl⟩
end Go.Proofs.Ytbjlaloofpdbfaa
namespace Go.Proofs.Ytbjlaloofpdbfaa
open Go.RowKit Go.PlainAid
set_option linter.unusedVariables false
set_option linter.unusedSimpArgs false
theorem nz0_has {L k : Nat} : ¬ has (nz0.ents L) k := by
  rintro ⟨e, he, hk⟩
  simp only [NZ.ents, NZ.dats, nz0, List.map_nil, List.append_nil, List.mem_cons, List.not_mem_nil, or_false] at he
  rcases he with rfl | rfl | rfl | rfl | rfl | rfl | rfl | rfl <;> cases hk
def s0 : PV := ⟨.slice none 0 0, .slice none 0 0, [], [], 0, nz0⟩
theorem bd0 : PBd s0 0 := ⟨Nat.le_refl _, Nat.le_refl _, (fun x h => by cases h), List.nodup_nil, List.nodup_nil, ⟨Int.le_refl _, Int.le_refl _⟩, Nat.le_refl _, Nat.le_refl _⟩
theorem made_pn (me rep per : Int) (w : World) (h : newCode me rep per = 0) :
    Calls Try.prog 27 #[.int .i64 me, .int .i64 rep, .int .i64 per] w fun e w' => ∃ a : PA, a.S0 = w.heap.size ∧ a.rep = rep ∧ e = .returned (.tuple #[.pointer (some ⟨a.pb, 0, none⟩), .bool true]) ∧ PN a s0 w' ∧ Below w.heap.size w w' := by
  refine (made_yes me rep per w h).mono ?_
  rintro e w2 ⟨hb, mh, mw, rb, pb, B, rfl, hl1, hl2, hl3, hl4, hl5, hT, hR, hB, hb2⟩
  exact ⟨⟨w.heap.size, pb, hb, mh, mw, B, rb, me, rep, per⟩, rfl, rfl, rfl, ⟨hB, hT, hR, held0 _ _, fun k _ => nz0_has, full0, ⟨Nat.le_trans hl4 hl5, hl2, hl3, hl4, hl1⟩, hb2.size⟩, hb2⟩
def Apt (P : Program) : Prop := ∀ (a : PA) (s : PV) (w : World), PN a s w → Calls P 30 #[.pointer (some ⟨a.pb, 0, none⟩)] w fun e w' => e = .returned (.bool true) ∧ Chg (a.own s) w w'
def Alv (P : Program) : Prop := ∀ w, Calls P 9 #[] w fun e w' => e = .returned (.bool true) ∧ Below w.heap.size w w'
set_option maxRecDepth 100000 in
set_option maxHeartbeats 12800000 in
theorem holds_any (HAL : Alv Try.prog) (HAP : Apt Try.prog) (me rep per lo hi : Int) (hrep : -9223372036854775808 ≤ rep ∧ rep ≤ 9223372036854775807)
    (ao : Option Addr) (N cap : Nat) (os : List LO) (w : World) (hl : os.length = N) (hnc : N ≤ cap) (hcm : cap ≤ maxLen) (hok : ∀ o ∈ os, o.ok)
    (hat : 0 < N → ∃ b off, ao = some ⟨b, off, none⟩ ∧ ∀ i o, os[i]? = some o → RowAt w b (off + i * 8) o.row) :
    Calls Try.prog 31 #[.int .i64 me, .int .i64 rep, .int .i64 per, .slice ao N cap, .int .i64 lo, .int .i64 hi] w fun e w' => e = .returned (.bool true) ∧ Below w.heap.size w w' := by
  have HFIT : Hid _ := fits_any ao N cap os w hl hnc hcm hok hat
  unfold maxLen at hcm
  have HAT : Hid (0 < N → ∃ b off, ao = some ⟨b, off, none⟩ ∧ ∀ i o, os[i]? = some o → RowAt w b (off + i * 8) o.row) := hat
  have HOK : Hid (∀ o ∈ os, o.ok) := hok
  have HL0 : Hid (os.length = N) := hl
  have HREP : Hid (-9223372036854775808 ≤ rep ∧ rep ≤ 9223372036854775807) := hrep
  clear hat hok hl hrep
  go_enter Try.func31, Try.ntmps31
  go_wp2_with fail
  refine Calls.mono HFIT.out ?_
  rintro e w0 ⟨b, rfl, hb, q0, hw0⟩
  have HB0 : Hid (Below w.heap.size w w0) := show Below w.heap.size w w0 from by rw [hw0]; exact below_drewN (Below.refl _ _) q0
  clear hw0 HFIT
  cases b
  · clear hb
    go_wp2_with fail
    go_ret
    exact ⟨rfl, HB0.out⟩
  have hN := hb rfl
  clear hb
  go_wp2_with fail
  refine Calls.mono (HAL w0) ?_
  rintro e w1 ⟨rfl, hb1⟩
  have HB1 : Hid (Below w.heap.size w w1) := show Below w.heap.size w w1 from HB0.out.trans (hb1.mono HB0.out.size)
  clear hb1 HB0
  go_wp2_with fail
  by_cases hnew : newCode me rep per = 0
  · have HMD : Hid _ := made_pn me rep per w1 hnew
    clear hnew
    refine Calls.mono HMD.out ?_
    rintro e w2 ⟨a, haS, hrp, rfl, hPN, hb2⟩
    have HB2 : Hid (Below w.heap.size w w2) := show Below w.heap.size w w2 from HB1.out.trans (hb2.mono HB1.out.size)
    have HPN : Hid (PN a s0 w2) := hPN
    have HS0 : Hid (w.heap.size ≤ a.S0) := show w.heap.size ≤ a.S0 from by rw [haS]; exact HB1.out.size
    have HRP : Hid (a.rep = rep) := hrp
    clear hb2 hPN haS hrp HMD HB1
    go_wp2_with fail
    go_loopw [16, 17, 18] (fun s16 _ _ wr => ∃ k : Nat, k ≤ N ∧ s16 = .int .i64 k ∧ ∃ s, PN a s wr ∧ PBd s k ∧ Below w.heap.size w wr) (fun s16 _ _ _ => N - (intOf s16).toNat)
    case atStart => exact ⟨0, by omega, rfl, s0, HPN.out, bd0, HB2.out⟩
    case round =>
      obtain ⟨k, hk, rfl, s, hP, hBd, hBe⟩ := hrel
      clear HPN HB2
      have HP : Hid (PN a s wr) := hP
      have HBD : Hid (PBd s k) := hBd
      have HBE : Hid (Below w.heap.size w wr) := hBe
      clear hP hBd hBe
      by_cases hlt : k < N
      · have hkb : k < os.length := by have := HL0.out; omega
        obtain ⟨x, hx⟩ : ∃ x, x = os[k] := ⟨_, rfl⟩
        have hxo : x.ok := HOK.out x (by rw [hx]; exact List.getElem_mem _)
        obtain ⟨b, off, hao, hcell⟩ := HAT.out (by omega)
        subst hao
        have hrow := hcell k x (by rw [hx]; exact List.getElem?_eq_getElem hkb)
        have hR : RowAt wr b (off + k * 8) x.row := hrow.below HBE.out (hrow.lt (by simp [LO.row]))
        have x0 : wr.cell? ⟨b, off + k * 8, none⟩ = some (.int .i64 x.k) := hR 0 _ rfl
        have x1 : wr.cell? ⟨b, off + k * 8 + 1, none⟩ = some (.string ⟨x.n.toArray⟩) := hR 1 _ rfl
        have x2 : wr.cell? ⟨b, off + k * 8 + 2, none⟩ = some (.int .i64 x.c.1) := hR 2 _ rfl
        have x3 : wr.cell? ⟨b, off + k * 8 + 3, none⟩ = some (.int .i64 x.c.2) := hR 3 _ rfl
        have x4 : wr.cell? ⟨b, off + k * 8 + 4, none⟩ = some (.int .i64 x.o.k) := hR 4 _ rfl
        have x5 : wr.cell? ⟨b, off + k * 8 + 5, none⟩ = some (.string ⟨x.o.n.toArray⟩) := hR 5 _ rfl
        have x6 : wr.cell? ⟨b, off + k * 8 + 6, none⟩ = some (.int .i64 x.o.a) := hR 6 _ rfl
        have x7 : wr.cell? ⟨b, off + k * 8 + 7, none⟩ = some (.int .i64 x.o.b) := hR 7 _ rfl
        have HPL : Hid _ := plays_gen a s k x.k x.n x.c x.o wr HP.out HBD.out (by omega) (by have := hxo.2.1; omega) (by have := hxo.2.2.2.2.2.1; omega) (by rw [HRP.out]; exact HREP.out)
        obtain ⟨kd, hkd⟩ : ∃ kd, kd = x.k := ⟨_, rfl⟩
        rw [← hkd] at x0 HPL
        clear hrow hcell hkb hx hxo hR hkd
        have HSKIP : Hid (PBd s (k + 1)) := HBD.out.mono
        clear HBD
        by_cases hsk : 5 ≤ kd ∧ (kd < lo ∨ hi < kd)
        · obtain ⟨h5, hsk⟩ := hsk
          by_cases hlo : kd < lo
          · clear hsk
            go_wp2_with fail
            go_roundw
            case rel => exact ⟨k + 1, by omega, by go_num, s, HP.out, HSKIP.out, HBE.out⟩
            case measure => simp [intOf]; omega
          · have hhi : hi < kd := by omega
            clear hsk
            go_wp2_with fail
            go_roundw
            case rel => exact ⟨k + 1, by omega, by go_num, s, HP.out, HSKIP.out, HBE.out⟩
            case measure => simp [intOf]; omega
        · have HK : Hid (Below w.heap.size w wr) := HBE.out
          clear HSKIP
          by_cases h5 : 5 ≤ kd
          · have hlo : ¬ kd < lo := by omega
            have hhi : ¬ hi < kd := by omega
            clear hsk
            go_wp2_with fail
            refine Calls.mono HPL.out ?_
            rintro e w4 ⟨rfl, s', hP4, hS4, hB4⟩
            have HP4 : Hid (PN a s' w4) := hP4
            have HB4 : Hid (PBd s' (k + 1)) := hB4
            have HE4 : Hid (Below w.heap.size w w4) := show Below w.heap.size w w4 from HK.out.trans ((PStp.below HP.out hS4).mono HS0.out)
            clear hP4 hB4 hS4 HPL HP HK HBE x0 x1 x2 x3 x4 x5 x6 x7
            go_wp2_with fail
            go_roundw
            case rel => exact ⟨k + 1, by omega, by go_num, s', HP4.out, HB4.out, HE4.out⟩
            case measure => simp [intOf]; omega
          · clear hsk
            go_wp2_with fail
            refine Calls.mono HPL.out ?_
            rintro e w4 ⟨rfl, s', hP4, hS4, hB4⟩
            have HP4 : Hid (PN a s' w4) := hP4
            have HB4 : Hid (PBd s' (k + 1)) := hB4
            have HE4 : Hid (Below w.heap.size w w4) := show Below w.heap.size w w4 from HK.out.trans ((PStp.below HP.out hS4).mono HS0.out)
            clear hP4 hB4 hS4 HPL HP HK HBE x0 x1 x2 x3 x4 x5 x6 x7
            go_wp2_with fail
            go_roundw
            case rel => exact ⟨k + 1, by omega, by go_num, s', HP4.out, HB4.out, HE4.out⟩
            case measure => simp [intOf]; omega
      · obtain ⟨wE, hwE⟩ : ∃ wE, wE = wr := ⟨_, rfl⟩
        subst hwE
        go_wp2_with fail
        refine Calls.mono (HAP a s _ HP.out) ?_
        rintro e w5 ⟨rfl, hc5⟩
        have HC5 : Hid _ := hc5
        clear hc5
        go_wp2_with fail
        go_ret
        exact ⟨rfl, HBE.out.trans ((PStp.below HP.out (s' := s) ⟨HC5.out, fun _ h => Or.inl h⟩).mono HS0.out)⟩
  · have HMD : Hid _ := made_no me rep per w1 hnew
    clear hnew
    refine Calls.mono HMD.out ?_
    rintro e w2 ⟨rfl, hw2⟩
    replace hw2 := hw2.symm
    subst hw2
    clear HMD
    go_wp2_with fail
    go_loopw [16, 17, 18] (fun s16 _ _ wr => s16 = .int .i64 0 ∧ wr = w1) (fun _ _ _ _ => 0)
    case atStart => exact ⟨rfl, rfl⟩
    case round =>
      obtain ⟨rfl, rfl⟩ := hrel
      by_cases h0 : 0 < N
      · go_wp2_with fail
        go_ret
        exact ⟨rfl, HB1.out⟩
      · go_wp2_with fail
        go_ret
        exact ⟨rfl, HB1.out⟩
end Go.Proofs.Ytbjlaloofpdbfaa
