import Derived.Test.YtadfmnlkfcigoaaHld
namespace Go.Proofs.Ytadfmnlkfcigoaa
open Go.RowKit Go.PlainAid
set_option linter.unusedVariables false
set_option linter.unusedSimpArgs false
theorem two_step {ap aq : PA} {sp sp' sq : PV} {w w' : World} (hp : PN ap sp w) (hq : PN aq sq w) (hd : ∀ j, has (ap.ents sp) j → ¬ has (aq.ents sq) j) (hs : PStp ap sp sp' w w') : PN aq sq w' ∧ ∀ j, has (ap.ents sp') j → ¬ has (aq.ents sq) j :=
  ⟨hq.frame hs.chg (fun k hk h => hd k h hk), fun j hj hk => by
    rcases hs.new j hj with h | h
    · exact hd j h hk
    · have := hq.lt hk; omega⟩
theorem dj_symm {ap aq : PA} {sp sq : PV} (h : ∀ j, has (ap.ents sp) j → ¬ has (aq.ents sq) j) : ∀ j, has (aq.ents sq) j → ¬ has (ap.ents sp) j := fun j h1 h2 => h j h2 h1
theorem newCode_room {o rep ses r : Int} (h : 1 ≤ r ∧ r ≤ 16) : newCode o rep ses r = newCode o rep ses 1 := by
  unfold newCode
  have e : (rep < 2 ∨ 16 < rep ∨ ses < 1 ∨ 64 < ses ∨ r < 1 ∨ 16 < r) ↔ (rep < 2 ∨ 16 < rep ∨ ses < 1 ∨ 64 < ses ∨ (1 : Int) < 1 ∨ (16 : Int) < 1) := by omega
  by_cases h1 : rep < 2 ∨ 16 < rep ∨ ses < 1 ∨ 64 < ses ∨ r < 1 ∨ 16 < r
  · rw [if_pos h1, if_pos (e.1 h1)]
  · rw [if_neg h1, if_neg (fun h2 => h1 (e.2 h2))]
theorem tmod2 (k : Nat) : (k : Int).tmod 2 = ((k % 2 : Nat) : Int) := by rw [Int.tmod_eq_emod_of_nonneg (by omega)]; omega
set_option maxRecDepth 100000 in
set_option maxHeartbeats 12800000 in
theorem all_00 (HAL : Alv Try.prog) (HAP : Apt Try.prog) (me rep ses room other : Int) (hroom : In64 room)
    (hp : newCode me rep ses room ≠ 0) (hq : newCode other rep ses 1 ≠ 0)
    (ao : Option Addr) (N cap : Nat) (os : List OpC) (w : World) (hl : os.length = N) (hnc : N ≤ cap) (hcm : cap ≤ maxLen) (hok : ∀ o ∈ os, o.ok)
    (hat : 0 < N → ∃ b off, ao = some ⟨b, off, none⟩ ∧ ∀ i o, os[i]? = some o → RowAt w b (off + i * 5) o.row) :
    Calls Try.prog 5 #[.int .i64 me, .int .i64 rep, .int .i64 ses, .int .i64 room, .int .i64 other, .slice ao N cap] w fun e w' => e = .returned (.bool true) ∧ Below w.heap.size w w' := by
  unfold maxLen at hcm
  by_cases hN : 400 < N
  · go_enter Try.func5, Try.ntmps5
    go_wp2_with fail
    go_ret
    exact ⟨rfl, Below.refl _ _⟩
  have HAT : Hid (0 < N → ∃ b off, ao = some ⟨b, off, none⟩ ∧ ∀ i o, os[i]? = some o → RowAt w b (off + i * 5) o.row) := hat
  have HOK : Hid (∀ o ∈ os, o.ok) := hok
  have HL0 : Hid (os.length = N) := hl
  have HRM : Hid (In64 room) := hroom
  have HNP : Hid (newCode me rep ses room ≠ 0) := hp
  have HNQ : Hid (newCode other rep ses 1 ≠ 0) := hq
  clear hat hok hl hroom hp hq
  go_enter Try.func5, Try.ntmps5
  go_wp2_with fail
  refine Calls.mono (HAL w) ?_
  rintro e w1 ⟨rfl, hb1⟩
  have HB1 : Hid (Below w.heap.size w w1) := hb1
  clear hb1
  go_wp2_with fail
  refine Calls.mono (made_no me rep ses room w1 HNP.out) ?_
  rintro e w2 ⟨rfl, hw2⟩
  have HB2 : Hid (Below w.heap.size w w2) := show Below w.heap.size w w2 from by rw [hw2]; exact HB1.out
  clear hw2 HB1
  go_wp2_with fail
  refine Calls.mono (slot_any room 16 w2 (by omega) (by omega) HRM.out) ?_
  rintro e wz ⟨rs, hrs0, hrs1, rfl, hwz⟩
  replace hwz := hwz.symm
  subst hwz
  obtain ⟨rm, hrm⟩ : ∃ rm, rm = 1 + rs := ⟨_, rfl⟩
  have HRM1 : Hid (1 ≤ rm ∧ rm ≤ 16) := show 1 ≤ rm ∧ rm ≤ 16 from by omega
  go_wp2_with fail
  rw [← hrm]
  clear hrm hrs0 hrs1
  refine Calls.mono (made_no other rep ses rm w2 (by rw [newCode_room HRM1.out]; exact HNQ.out)) ?_
  rintro e w3 ⟨rfl, hw3⟩
  have HB3 : Hid (Below w.heap.size w w3) := show Below w.heap.size w w3 from by rw [hw3]; exact HB2.out
  clear hw3 HB2
  go_wp2_with fail
  go_loopw [18, 19] (fun s18 _ wr => ∃ k : Nat, k ≤ N ∧ s18 = .int .i64 k ∧ Below w.heap.size w wr) (fun s18 _ _ => N - (intOf s18).toNat)
  case atStart => exact ⟨0, by omega, rfl, HB3.out⟩
  case round =>
    obtain ⟨k, hk, rfl, hBe⟩ := hrel
    clear HB3 
    have HBE : Hid (Below w.heap.size w wr) := hBe
    clear hBe
    by_cases hlt : k < N
    · have hkb : k < os.length := by have := HL0.out; omega
      obtain ⟨x, hx⟩ : ∃ x, x = os[k] := ⟨_, rfl⟩
      have hxo : x.ok := HOK.out x (by rw [hx]; exact List.getElem_mem _)
      obtain ⟨b, off, hao, hcell⟩ := HAT.out (by omega)
      subst hao
      have hrow := hcell k x (by rw [hx]; exact List.getElem?_eq_getElem hkb)
      have hR : RowAt wr b (off + k * 5) x.row := hrow.below HBE.out (hrow.lt (by simp [OpC.row]))
      have x0 : wr.cell? ⟨b, off + k * 5, none⟩ = some (.int .i64 x.k) := hR 0 _ rfl
      have x1 : wr.cell? ⟨b, off + k * 5 + 1, none⟩ = some (.int .i64 x.s) := hR 1 _ rfl
      have x2 : wr.cell? ⟨b, off + k * 5 + 2, none⟩ = some (.int .i64 x.i) := hR 2 _ rfl
      have x3 : wr.cell? ⟨b, off + k * 5 + 3, none⟩ = some (.int .i64 x.e) := hR 3 _ rfl
      have x4 : wr.cell? ⟨b, off + k * 5 + 4, none⟩ = some (.int .i64 x.v) := hR 4 _ rfl
      clear hrow hcell hkb hx hxo hR
      rcases (by omega : k % 2 = 0 ∨ k % 2 = 1) with hpar | hpar
      · have ht : (k : Int).tmod 2 = 0 := by rw [tmod2, hpar]; rfl
        clear hpar
        have HE4 : Hid (Below w.heap.size w wr) := HBE.out
        clear HBE 
        clear x0 x1 x2 x3 x4
        go_wp2_with fail
        go_roundw
        case rel => exact ⟨k + 1, by omega, by go_num, HE4.out⟩
        case measure => simp [intOf]; omega
      · have ht : (k : Int).tmod 2 = 1 := by rw [tmod2, hpar]; rfl
        clear hpar
        have HE4 : Hid (Below w.heap.size w wr) := HBE.out
        clear HBE 
        clear x0 x1 x2 x3 x4
        go_wp2_with fail
        go_roundw
        case rel => exact ⟨k + 1, by omega, by go_num, HE4.out⟩
        case measure => simp [intOf]; omega
    · obtain ⟨wE, hwE⟩ : ∃ wE, wE = wr := ⟨_, rfl⟩
      subst hwE
      go_wp2_with fail
      have HE5 : Hid (Below w.heap.size w wE) := HBE.out
      go_ret
      exact ⟨rfl, HE5.out⟩
set_option maxRecDepth 100000 in
set_option maxHeartbeats 12800000 in
theorem all_01 (HAL : Alv Try.prog) (HAP : Apt Try.prog) (me rep ses room other : Int) (hroom : In64 room)
    (hp : newCode me rep ses room ≠ 0) (hq : newCode other rep ses 1 = 0)
    (ao : Option Addr) (N cap : Nat) (os : List OpC) (w : World) (hl : os.length = N) (hnc : N ≤ cap) (hcm : cap ≤ maxLen) (hok : ∀ o ∈ os, o.ok)
    (hat : 0 < N → ∃ b off, ao = some ⟨b, off, none⟩ ∧ ∀ i o, os[i]? = some o → RowAt w b (off + i * 5) o.row) :
    Calls Try.prog 5 #[.int .i64 me, .int .i64 rep, .int .i64 ses, .int .i64 room, .int .i64 other, .slice ao N cap] w fun e w' => e = .returned (.bool true) ∧ Below w.heap.size w w' := by
  unfold maxLen at hcm
  by_cases hN : 400 < N
  · go_enter Try.func5, Try.ntmps5
    go_wp2_with fail
    go_ret
    exact ⟨rfl, Below.refl _ _⟩
  have HAT : Hid (0 < N → ∃ b off, ao = some ⟨b, off, none⟩ ∧ ∀ i o, os[i]? = some o → RowAt w b (off + i * 5) o.row) := hat
  have HOK : Hid (∀ o ∈ os, o.ok) := hok
  have HL0 : Hid (os.length = N) := hl
  have HRM : Hid (In64 room) := hroom
  have HNP : Hid (newCode me rep ses room ≠ 0) := hp
  have HNQ : Hid (newCode other rep ses 1 = 0) := hq
  clear hat hok hl hroom hp hq
  go_enter Try.func5, Try.ntmps5
  go_wp2_with fail
  refine Calls.mono (HAL w) ?_
  rintro e w1 ⟨rfl, hb1⟩
  have HB1 : Hid (Below w.heap.size w w1) := hb1
  clear hb1
  go_wp2_with fail
  refine Calls.mono (made_no me rep ses room w1 HNP.out) ?_
  rintro e w2 ⟨rfl, hw2⟩
  have HB2 : Hid (Below w.heap.size w w2) := show Below w.heap.size w w2 from by rw [hw2]; exact HB1.out
  clear hw2 HB1
  go_wp2_with fail
  refine Calls.mono (slot_any room 16 w2 (by omega) (by omega) HRM.out) ?_
  rintro e wz ⟨rs, hrs0, hrs1, rfl, hwz⟩
  replace hwz := hwz.symm
  subst hwz
  obtain ⟨rm, hrm⟩ : ∃ rm, rm = 1 + rs := ⟨_, rfl⟩
  have HRM1 : Hid (1 ≤ rm ∧ rm ≤ 16) := show 1 ≤ rm ∧ rm ≤ 16 from by omega
  go_wp2_with fail
  rw [← hrm]
  clear hrm hrs0 hrs1
  refine Calls.mono (made_yes other rep ses rm w2 (by rw [newCode_room HRM1.out]; exact HNQ.out)) ?_
  rintro e w3 ⟨aq, rfl, haS, _, hrp, _, _, hPN, hb2⟩
  have HB3 : Hid (Below w.heap.size w w3) := show Below w.heap.size w w3 from HB2.out.trans (hb2.mono HB2.out.size)
  have HPQ : Hid (PN aq s0 w3) := hPN
  have HSQ : Hid (w.heap.size ≤ aq.L) := show w.heap.size ≤ aq.L from by rw [haS]; exact HB2.out.size
  clear hb2 hPN haS hrp HB2
  go_wp2_with fail
  go_loopw [18, 19] (fun s18 _ wr => ∃ k : Nat, k ≤ N ∧ s18 = .int .i64 k ∧ ∃ sq : PV, PN aq sq wr ∧ PBd sq k ∧ Below w.heap.size w wr) (fun s18 _ _ => N - (intOf s18).toNat)
  case atStart => exact ⟨0, by omega, rfl, s0, HPQ.out, bd0, HB3.out⟩
  case round =>
    obtain ⟨k, hk, rfl, sq, hPQ, hBQ, hBe⟩ := hrel
    clear HB3 HPQ 
    have HQ : Hid (PN aq sq wr) := hPQ
    have HBQ : Hid (PBd sq k) := hBQ
    clear hPQ hBQ
    have HBE : Hid (Below w.heap.size w wr) := hBe
    clear hBe
    by_cases hlt : k < N
    · have hkb : k < os.length := by have := HL0.out; omega
      obtain ⟨x, hx⟩ : ∃ x, x = os[k] := ⟨_, rfl⟩
      have hxo : x.ok := HOK.out x (by rw [hx]; exact List.getElem_mem _)
      obtain ⟨b, off, hao, hcell⟩ := HAT.out (by omega)
      subst hao
      have hrow := hcell k x (by rw [hx]; exact List.getElem?_eq_getElem hkb)
      have hR : RowAt wr b (off + k * 5) x.row := hrow.below HBE.out (hrow.lt (by simp [OpC.row]))
      have x0 : wr.cell? ⟨b, off + k * 5, none⟩ = some (.int .i64 x.k) := hR 0 _ rfl
      have x1 : wr.cell? ⟨b, off + k * 5 + 1, none⟩ = some (.int .i64 x.s) := hR 1 _ rfl
      have x2 : wr.cell? ⟨b, off + k * 5 + 2, none⟩ = some (.int .i64 x.i) := hR 2 _ rfl
      have x3 : wr.cell? ⟨b, off + k * 5 + 3, none⟩ = some (.int .i64 x.e) := hR 3 _ rfl
      have x4 : wr.cell? ⟨b, off + k * 5 + 4, none⟩ = some (.int .i64 x.v) := hR 4 _ rfl
      have HPLQ : Hid _ := plays_gen aq sq k x.k x.s x.i x.e x.v wr HQ.out HBQ.out (by omega) hxo.2.1 hxo.2.2.2.1
      have HMQ : Hid (PBd sq (k + 1)) := HBQ.out.mono
      clear hrow hcell hkb hx hxo hR
      rcases (by omega : k % 2 = 0 ∨ k % 2 = 1) with hpar | hpar
      · have ht : (k : Int).tmod 2 = 0 := by rw [tmod2, hpar]; rfl
        clear hpar
        obtain ⟨sq4, hsq4⟩ : ∃ q, q = sq := ⟨_, rfl⟩
        subst hsq4
        have HQ4 : Hid (PN aq sq4 wr) := HQ.out
        have HBQ4 : Hid (PBd sq4 (k + 1)) := HMQ.out
        have HE4 : Hid (Below w.heap.size w wr) := HBE.out
        clear HBE HQ HBQ HMQ HPLQ 
        clear x0 x1 x2 x3 x4
        go_wp2_with fail
        refine Calls.mono (stands_pn aq sq4 _ HQ4.out) ?_
        rintro e wq5 ⟨rfl, qq, hwq5⟩
        replace HQ4 : Hid (PN aq sq4 wq5) := show PN aq sq4 wq5 from by rw [hwq5]; exact HQ4.out.more (below_drewN (Below.refl _ _) qq)
        replace HE4 : Hid (Below w.heap.size w wq5) := show Below w.heap.size w wq5 from by rw [hwq5]; exact below_drewN HE4.out qq
        clear hwq5
        go_wp2_with fail
        go_roundw
        case rel => exact ⟨k + 1, by omega, by go_num, sq4, HQ4.out, HBQ4.out, HE4.out⟩
        case measure => simp [intOf]; omega
      · have ht : (k : Int).tmod 2 = 1 := by rw [tmod2, hpar]; rfl
        clear hpar
        go_wp2_with fail
        refine Calls.mono HPLQ.out ?_
        rintro e w4 ⟨rfl, sq4, hP4, hS4, hB4, _⟩
        have HQ4 : Hid (PN aq sq4 w4) := hP4
        have HBQ4 : Hid (PBd sq4 (k + 1)) := hB4
        have HE4 : Hid (Below w.heap.size w w4) := show Below w.heap.size w w4 from HBE.out.trans ((PStp.below HQ.out hS4).mono HSQ.out)
        clear hP4 hS4 hB4 HQ HBQ HMQ HPLQ HBE
        clear x0 x1 x2 x3 x4
        go_wp2_with fail
        refine Calls.mono (stands_pn aq sq4 _ HQ4.out) ?_
        rintro e wq5 ⟨rfl, qq, hwq5⟩
        replace HQ4 : Hid (PN aq sq4 wq5) := show PN aq sq4 wq5 from by rw [hwq5]; exact HQ4.out.more (below_drewN (Below.refl _ _) qq)
        replace HE4 : Hid (Below w.heap.size w wq5) := show Below w.heap.size w wq5 from by rw [hwq5]; exact below_drewN HE4.out qq
        clear hwq5
        go_wp2_with fail
        go_roundw
        case rel => exact ⟨k + 1, by omega, by go_num, sq4, HQ4.out, HBQ4.out, HE4.out⟩
        case measure => simp [intOf]; omega
    · obtain ⟨wE, hwE⟩ : ∃ wE, wE = wr := ⟨_, rfl⟩
      subst hwE
      go_wp2_with fail
      have HE5 : Hid (Below w.heap.size w wE) := HBE.out
      have HQ5 : Hid (PN aq sq wE) := HQ.out
      refine Calls.mono (HAP aq sq _ HQ5.out) ?_
      rintro e w6 ⟨rfl, hc6⟩
      have HE6 : Hid (Below w.heap.size w w6) := show Below w.heap.size w w6 from HE5.out.trans ((PStp.below HQ5.out (s' := sq) ⟨hc6, fun _ h => Or.inl h⟩).mono HSQ.out)
      clear hc6
      go_wp2_with fail
      go_ret
      exact ⟨rfl, HE6.out⟩
set_option maxRecDepth 100000 in
set_option maxHeartbeats 12800000 in
theorem all_10 (HAL : Alv Try.prog) (HAP : Apt Try.prog) (me rep ses room other : Int) (hroom : In64 room)
    (hp : newCode me rep ses room = 0) (hq : newCode other rep ses 1 ≠ 0)
    (ao : Option Addr) (N cap : Nat) (os : List OpC) (w : World) (hl : os.length = N) (hnc : N ≤ cap) (hcm : cap ≤ maxLen) (hok : ∀ o ∈ os, o.ok)
    (hat : 0 < N → ∃ b off, ao = some ⟨b, off, none⟩ ∧ ∀ i o, os[i]? = some o → RowAt w b (off + i * 5) o.row) :
    Calls Try.prog 5 #[.int .i64 me, .int .i64 rep, .int .i64 ses, .int .i64 room, .int .i64 other, .slice ao N cap] w fun e w' => e = .returned (.bool true) ∧ Below w.heap.size w w' := by
  unfold maxLen at hcm
  by_cases hN : 400 < N
  · go_enter Try.func5, Try.ntmps5
    go_wp2_with fail
    go_ret
    exact ⟨rfl, Below.refl _ _⟩
  have HAT : Hid (0 < N → ∃ b off, ao = some ⟨b, off, none⟩ ∧ ∀ i o, os[i]? = some o → RowAt w b (off + i * 5) o.row) := hat
  have HOK : Hid (∀ o ∈ os, o.ok) := hok
  have HL0 : Hid (os.length = N) := hl
  have HRM : Hid (In64 room) := hroom
  have HNP : Hid (newCode me rep ses room = 0) := hp
  have HNQ : Hid (newCode other rep ses 1 ≠ 0) := hq
  clear hat hok hl hroom hp hq
  go_enter Try.func5, Try.ntmps5
  go_wp2_with fail
  refine Calls.mono (HAL w) ?_
  rintro e w1 ⟨rfl, hb1⟩
  have HB1 : Hid (Below w.heap.size w w1) := hb1
  clear hb1
  go_wp2_with fail
  refine Calls.mono (made_yes me rep ses room w1 HNP.out) ?_
  rintro e w2 ⟨ap, rfl, haS, _, hrp, _, _, hPN, hb2⟩
  have HB2 : Hid (Below w.heap.size w w2) := show Below w.heap.size w w2 from HB1.out.trans (hb2.mono HB1.out.size)
  have HPP : Hid (PN ap s0 w2) := hPN
  have HSP : Hid (w.heap.size ≤ ap.L) := show w.heap.size ≤ ap.L from by rw [haS]; exact HB1.out.size
  clear hb2 hPN haS hrp HB1
  go_wp2_with fail
  refine Calls.mono (slot_any room 16 w2 (by omega) (by omega) HRM.out) ?_
  rintro e wz ⟨rs, hrs0, hrs1, rfl, hwz⟩
  replace hwz := hwz.symm
  subst hwz
  obtain ⟨rm, hrm⟩ : ∃ rm, rm = 1 + rs := ⟨_, rfl⟩
  have HRM1 : Hid (1 ≤ rm ∧ rm ≤ 16) := show 1 ≤ rm ∧ rm ≤ 16 from by omega
  go_wp2_with fail
  rw [← hrm]
  clear hrm hrs0 hrs1
  refine Calls.mono (made_no other rep ses rm w2 (by rw [newCode_room HRM1.out]; exact HNQ.out)) ?_
  rintro e w3 ⟨rfl, hw3⟩
  have HB3 : Hid (Below w.heap.size w w3) := show Below w.heap.size w w3 from by rw [hw3]; exact HB2.out
  have HPP3 : Hid (PN ap s0 w3) := show PN ap s0 w3 from by rw [hw3]; exact HPP.out
  clear HPP
  clear hw3 HB2
  go_wp2_with fail
  go_loopw [18, 19] (fun s18 _ wr => ∃ k : Nat, k ≤ N ∧ s18 = .int .i64 k ∧ ∃ sp : PV, PN ap sp wr ∧ PBd sp k ∧ Below w.heap.size w wr) (fun s18 _ _ => N - (intOf s18).toNat)
  case atStart => exact ⟨0, by omega, rfl, s0, HPP3.out, bd0, HB3.out⟩
  case round =>
    obtain ⟨k, hk, rfl, sp, hPP, hBP, hBe⟩ := hrel
    clear HB3 HPP3 
    have HP : Hid (PN ap sp wr) := hPP
    have HBP : Hid (PBd sp k) := hBP
    clear hPP hBP
    have HBE : Hid (Below w.heap.size w wr) := hBe
    clear hBe
    by_cases hlt : k < N
    · have hkb : k < os.length := by have := HL0.out; omega
      obtain ⟨x, hx⟩ : ∃ x, x = os[k] := ⟨_, rfl⟩
      have hxo : x.ok := HOK.out x (by rw [hx]; exact List.getElem_mem _)
      obtain ⟨b, off, hao, hcell⟩ := HAT.out (by omega)
      subst hao
      have hrow := hcell k x (by rw [hx]; exact List.getElem?_eq_getElem hkb)
      have hR : RowAt wr b (off + k * 5) x.row := hrow.below HBE.out (hrow.lt (by simp [OpC.row]))
      have x0 : wr.cell? ⟨b, off + k * 5, none⟩ = some (.int .i64 x.k) := hR 0 _ rfl
      have x1 : wr.cell? ⟨b, off + k * 5 + 1, none⟩ = some (.int .i64 x.s) := hR 1 _ rfl
      have x2 : wr.cell? ⟨b, off + k * 5 + 2, none⟩ = some (.int .i64 x.i) := hR 2 _ rfl
      have x3 : wr.cell? ⟨b, off + k * 5 + 3, none⟩ = some (.int .i64 x.e) := hR 3 _ rfl
      have x4 : wr.cell? ⟨b, off + k * 5 + 4, none⟩ = some (.int .i64 x.v) := hR 4 _ rfl
      have HPLP : Hid _ := plays_gen ap sp k x.k x.s x.i x.e x.v wr HP.out HBP.out (by omega) hxo.2.1 hxo.2.2.2.1
      have HMP : Hid (PBd sp (k + 1)) := HBP.out.mono
      clear hrow hcell hkb hx hxo hR
      rcases (by omega : k % 2 = 0 ∨ k % 2 = 1) with hpar | hpar
      · have ht : (k : Int).tmod 2 = 0 := by rw [tmod2, hpar]; rfl
        clear hpar
        go_wp2_with fail
        refine Calls.mono HPLP.out ?_
        rintro e w4 ⟨rfl, sp4, hP4, hS4, hB4, _⟩
        have HP4 : Hid (PN ap sp4 w4) := hP4
        have HBP4 : Hid (PBd sp4 (k + 1)) := hB4
        have HE4 : Hid (Below w.heap.size w w4) := show Below w.heap.size w w4 from HBE.out.trans ((PStp.below HP.out hS4).mono HSP.out)
        clear hP4 hS4 hB4 HP HBP HMP HPLP HBE
        clear x0 x1 x2 x3 x4
        go_wp2_with fail
        refine Calls.mono (stands_pn ap sp4 _ HP4.out) ?_
        rintro e wp5 ⟨rfl, qp, hwp5⟩
        replace HP4 : Hid (PN ap sp4 wp5) := show PN ap sp4 wp5 from by rw [hwp5]; exact HP4.out.more (below_drewN (Below.refl _ _) qp)
        replace HE4 : Hid (Below w.heap.size w wp5) := show Below w.heap.size w wp5 from by rw [hwp5]; exact below_drewN HE4.out qp
        clear hwp5
        go_wp2_with fail
        go_roundw
        case rel => exact ⟨k + 1, by omega, by go_num, sp4, HP4.out, HBP4.out, HE4.out⟩
        case measure => simp [intOf]; omega
      · have ht : (k : Int).tmod 2 = 1 := by rw [tmod2, hpar]; rfl
        clear hpar
        obtain ⟨sp4, hsp4⟩ : ∃ q, q = sp := ⟨_, rfl⟩
        subst hsp4
        have HP4 : Hid (PN ap sp4 wr) := HP.out
        have HBP4 : Hid (PBd sp4 (k + 1)) := HMP.out
        have HE4 : Hid (Below w.heap.size w wr) := HBE.out
        clear HBE HP HBP HMP HPLP 
        clear x0 x1 x2 x3 x4
        go_wp2_with fail
        refine Calls.mono (stands_pn ap sp4 _ HP4.out) ?_
        rintro e wp5 ⟨rfl, qp, hwp5⟩
        replace HP4 : Hid (PN ap sp4 wp5) := show PN ap sp4 wp5 from by rw [hwp5]; exact HP4.out.more (below_drewN (Below.refl _ _) qp)
        replace HE4 : Hid (Below w.heap.size w wp5) := show Below w.heap.size w wp5 from by rw [hwp5]; exact below_drewN HE4.out qp
        clear hwp5
        go_wp2_with fail
        go_roundw
        case rel => exact ⟨k + 1, by omega, by go_num, sp4, HP4.out, HBP4.out, HE4.out⟩
        case measure => simp [intOf]; omega
    · obtain ⟨wE, hwE⟩ : ∃ wE, wE = wr := ⟨_, rfl⟩
      subst hwE
      go_wp2_with fail
      refine Calls.mono (HAP ap sp _ HP.out) ?_
      rintro e w5 ⟨rfl, hc5⟩
      have hst5 : PStp ap sp sp wE w5 := ⟨hc5, fun _ h => Or.inl h⟩
      have HE5 : Hid (Below w.heap.size w w5) := show Below w.heap.size w w5 from HBE.out.trans ((PStp.below HP.out hst5).mono HSP.out)
      clear hc5 hst5
      go_wp2_with fail
      go_ret
      exact ⟨rfl, HE5.out⟩
set_option maxRecDepth 100000 in
set_option maxHeartbeats 12800000 in
theorem all_11 (HAL : Alv Try.prog) (HAP : Apt Try.prog) (me rep ses room other : Int) (hroom : In64 room)
    (hp : newCode me rep ses room = 0) (hq : newCode other rep ses 1 = 0)
    (ao : Option Addr) (N cap : Nat) (os : List OpC) (w : World) (hl : os.length = N) (hnc : N ≤ cap) (hcm : cap ≤ maxLen) (hok : ∀ o ∈ os, o.ok)
    (hat : 0 < N → ∃ b off, ao = some ⟨b, off, none⟩ ∧ ∀ i o, os[i]? = some o → RowAt w b (off + i * 5) o.row) :
    Calls Try.prog 5 #[.int .i64 me, .int .i64 rep, .int .i64 ses, .int .i64 room, .int .i64 other, .slice ao N cap] w fun e w' => e = .returned (.bool true) ∧ Below w.heap.size w w' := by
  unfold maxLen at hcm
  by_cases hN : 400 < N
  · go_enter Try.func5, Try.ntmps5
    go_wp2_with fail
    go_ret
    exact ⟨rfl, Below.refl _ _⟩
  have HAT : Hid (0 < N → ∃ b off, ao = some ⟨b, off, none⟩ ∧ ∀ i o, os[i]? = some o → RowAt w b (off + i * 5) o.row) := hat
  have HOK : Hid (∀ o ∈ os, o.ok) := hok
  have HL0 : Hid (os.length = N) := hl
  have HRM : Hid (In64 room) := hroom
  have HNP : Hid (newCode me rep ses room = 0) := hp
  have HNQ : Hid (newCode other rep ses 1 = 0) := hq
  clear hat hok hl hroom hp hq
  go_enter Try.func5, Try.ntmps5
  go_wp2_with fail
  refine Calls.mono (HAL w) ?_
  rintro e w1 ⟨rfl, hb1⟩
  have HB1 : Hid (Below w.heap.size w w1) := hb1
  clear hb1
  go_wp2_with fail
  refine Calls.mono (made_yes me rep ses room w1 HNP.out) ?_
  rintro e w2 ⟨ap, rfl, haS, _, hrp, _, _, hPN, hb2⟩
  have HB2 : Hid (Below w.heap.size w w2) := show Below w.heap.size w w2 from HB1.out.trans (hb2.mono HB1.out.size)
  have HPP : Hid (PN ap s0 w2) := hPN
  have HSP : Hid (w.heap.size ≤ ap.L) := show w.heap.size ≤ ap.L from by rw [haS]; exact HB1.out.size
  clear hb2 hPN haS hrp HB1
  go_wp2_with fail
  refine Calls.mono (slot_any room 16 w2 (by omega) (by omega) HRM.out) ?_
  rintro e wz ⟨rs, hrs0, hrs1, rfl, hwz⟩
  replace hwz := hwz.symm
  subst hwz
  obtain ⟨rm, hrm⟩ : ∃ rm, rm = 1 + rs := ⟨_, rfl⟩
  have HRM1 : Hid (1 ≤ rm ∧ rm ≤ 16) := show 1 ≤ rm ∧ rm ≤ 16 from by omega
  go_wp2_with fail
  rw [← hrm]
  clear hrm hrs0 hrs1
  refine Calls.mono (made_yes other rep ses rm w2 (by rw [newCode_room HRM1.out]; exact HNQ.out)) ?_
  rintro e w3 ⟨aq, rfl, haS, _, hrp, _, _, hPN, hb2⟩
  have HB3 : Hid (Below w.heap.size w w3) := show Below w.heap.size w w3 from HB2.out.trans (hb2.mono HB2.out.size)
  have HPQ : Hid (PN aq s0 w3) := hPN
  have HSQ : Hid (w.heap.size ≤ aq.L) := show w.heap.size ≤ aq.L from by rw [haS]; exact HB2.out.size
  have HPP3 : Hid (PN ap s0 w3) := HPP.out.more hb2
  have HDJ : Hid (∀ j, has (ap.ents s0) j → ¬ has (aq.ents s0) j) := fun j h1 h2 => by
    have h3 := HPP.out.lt h1
    have h4 := hPN.ge h2
    omega
  clear HPP
  clear hb2 hPN haS hrp HB2
  go_wp2_with fail
  go_loopw [18, 19] (fun s18 _ wr => ∃ k : Nat, k ≤ N ∧ s18 = .int .i64 k ∧ ∃ sp : PV, ∃ sq : PV, PN ap sp wr ∧ PBd sp k ∧ PN aq sq wr ∧ PBd sq k ∧ (∀ j, has (ap.ents sp) j → ¬ has (aq.ents sq) j) ∧ Below w.heap.size w wr) (fun s18 _ _ => N - (intOf s18).toNat)
  case atStart => exact ⟨0, by omega, rfl, s0, s0, HPP3.out, bd0, HPQ.out, bd0, HDJ.out, HB3.out⟩
  case round =>
    obtain ⟨k, hk, rfl, sp, sq, hPP, hBP, hPQ, hBQ, hDJ, hBe⟩ := hrel
    clear HB3 HPP3 HPQ HDJ
    have HP : Hid (PN ap sp wr) := hPP
    have HBP : Hid (PBd sp k) := hBP
    clear hPP hBP
    have HQ : Hid (PN aq sq wr) := hPQ
    have HBQ : Hid (PBd sq k) := hBQ
    clear hPQ hBQ
    have HDJ : Hid (∀ j, has (ap.ents sp) j → ¬ has (aq.ents sq) j) := hDJ
    clear hDJ
    have HBE : Hid (Below w.heap.size w wr) := hBe
    clear hBe
    by_cases hlt : k < N
    · have hkb : k < os.length := by have := HL0.out; omega
      obtain ⟨x, hx⟩ : ∃ x, x = os[k] := ⟨_, rfl⟩
      have hxo : x.ok := HOK.out x (by rw [hx]; exact List.getElem_mem _)
      obtain ⟨b, off, hao, hcell⟩ := HAT.out (by omega)
      subst hao
      have hrow := hcell k x (by rw [hx]; exact List.getElem?_eq_getElem hkb)
      have hR : RowAt wr b (off + k * 5) x.row := hrow.below HBE.out (hrow.lt (by simp [OpC.row]))
      have x0 : wr.cell? ⟨b, off + k * 5, none⟩ = some (.int .i64 x.k) := hR 0 _ rfl
      have x1 : wr.cell? ⟨b, off + k * 5 + 1, none⟩ = some (.int .i64 x.s) := hR 1 _ rfl
      have x2 : wr.cell? ⟨b, off + k * 5 + 2, none⟩ = some (.int .i64 x.i) := hR 2 _ rfl
      have x3 : wr.cell? ⟨b, off + k * 5 + 3, none⟩ = some (.int .i64 x.e) := hR 3 _ rfl
      have x4 : wr.cell? ⟨b, off + k * 5 + 4, none⟩ = some (.int .i64 x.v) := hR 4 _ rfl
      have HPLP : Hid _ := plays_gen ap sp k x.k x.s x.i x.e x.v wr HP.out HBP.out (by omega) hxo.2.1 hxo.2.2.2.1
      have HMP : Hid (PBd sp (k + 1)) := HBP.out.mono
      have HPLQ : Hid _ := plays_gen aq sq k x.k x.s x.i x.e x.v wr HQ.out HBQ.out (by omega) hxo.2.1 hxo.2.2.2.1
      have HMQ : Hid (PBd sq (k + 1)) := HBQ.out.mono
      clear hrow hcell hkb hx hxo hR
      rcases (by omega : k % 2 = 0 ∨ k % 2 = 1) with hpar | hpar
      · have ht : (k : Int).tmod 2 = 0 := by rw [tmod2, hpar]; rfl
        clear hpar
        go_wp2_with fail
        refine Calls.mono HPLP.out ?_
        rintro e w4 ⟨rfl, sp4, hP4, hS4, hB4, _⟩
        have HP4 : Hid (PN ap sp4 w4) := hP4
        have HBP4 : Hid (PBd sp4 (k + 1)) := hB4
        have HE4 : Hid (Below w.heap.size w w4) := show Below w.heap.size w w4 from HBE.out.trans ((PStp.below HP.out hS4).mono HSP.out)
        obtain ⟨sq4, hsq4⟩ : ∃ q, q = sq := ⟨_, rfl⟩
        subst hsq4
        obtain ⟨hQ4, hD4⟩ := two_step HP.out HQ.out HDJ.out hS4
        have HQ4 : Hid (PN aq sq4 w4) := hQ4
        have HBQ4 : Hid (PBd sq4 (k + 1)) := HMQ.out
        have HDJ4 : Hid (∀ j, has (ap.ents sp4) j → ¬ has (aq.ents sq4) j) := hD4
        clear hQ4 hD4 HQ HBQ HMQ HPLQ HDJ
        clear hP4 hS4 hB4 HP HBP HMP HPLP HBE
        clear x0 x1 x2 x3 x4
        go_wp2_with fail
        refine Calls.mono (stands_pn ap sp4 _ HP4.out) ?_
        rintro e wp5 ⟨rfl, qp, hwp5⟩
        replace HP4 : Hid (PN ap sp4 wp5) := show PN ap sp4 wp5 from by rw [hwp5]; exact HP4.out.more (below_drewN (Below.refl _ _) qp)
        replace HQ4 : Hid (PN aq sq4 wp5) := show PN aq sq4 wp5 from by rw [hwp5]; exact HQ4.out.more (below_drewN (Below.refl _ _) qp)
        replace HE4 : Hid (Below w.heap.size w wp5) := show Below w.heap.size w wp5 from by rw [hwp5]; exact below_drewN HE4.out qp
        clear hwp5
        go_wp2_with fail
        refine Calls.mono (stands_pn aq sq4 _ HQ4.out) ?_
        rintro e wq5 ⟨rfl, qq, hwq5⟩
        replace HP4 : Hid (PN ap sp4 wq5) := show PN ap sp4 wq5 from by rw [hwq5]; exact HP4.out.more (below_drewN (Below.refl _ _) qq)
        replace HQ4 : Hid (PN aq sq4 wq5) := show PN aq sq4 wq5 from by rw [hwq5]; exact HQ4.out.more (below_drewN (Below.refl _ _) qq)
        replace HE4 : Hid (Below w.heap.size w wq5) := show Below w.heap.size w wq5 from by rw [hwq5]; exact below_drewN HE4.out qq
        clear hwq5
        go_wp2_with fail
        go_roundw
        case rel => exact ⟨k + 1, by omega, by go_num, sp4, sq4, HP4.out, HBP4.out, HQ4.out, HBQ4.out, HDJ4.out, HE4.out⟩
        case measure => simp [intOf]; omega
      · have ht : (k : Int).tmod 2 = 1 := by rw [tmod2, hpar]; rfl
        clear hpar
        go_wp2_with fail
        refine Calls.mono HPLQ.out ?_
        rintro e w4 ⟨rfl, sq4, hP4, hS4, hB4, _⟩
        have HQ4 : Hid (PN aq sq4 w4) := hP4
        have HBQ4 : Hid (PBd sq4 (k + 1)) := hB4
        have HE4 : Hid (Below w.heap.size w w4) := show Below w.heap.size w w4 from HBE.out.trans ((PStp.below HQ.out hS4).mono HSQ.out)
        obtain ⟨sp4, hsp4⟩ : ∃ q, q = sp := ⟨_, rfl⟩
        subst hsp4
        obtain ⟨hQ4, hD4⟩ := two_step HQ.out HP.out (dj_symm HDJ.out) hS4
        have HP4 : Hid (PN ap sp4 w4) := hQ4
        have HBP4 : Hid (PBd sp4 (k + 1)) := HMP.out
        have HDJ4 : Hid (∀ j, has (ap.ents sp4) j → ¬ has (aq.ents sq4) j) := dj_symm hD4
        clear hQ4 hD4 HP HBP HMP HPLP HDJ
        clear hP4 hS4 hB4 HQ HBQ HMQ HPLQ HBE
        clear x0 x1 x2 x3 x4
        go_wp2_with fail
        refine Calls.mono (stands_pn ap sp4 _ HP4.out) ?_
        rintro e wp5 ⟨rfl, qp, hwp5⟩
        replace HP4 : Hid (PN ap sp4 wp5) := show PN ap sp4 wp5 from by rw [hwp5]; exact HP4.out.more (below_drewN (Below.refl _ _) qp)
        replace HQ4 : Hid (PN aq sq4 wp5) := show PN aq sq4 wp5 from by rw [hwp5]; exact HQ4.out.more (below_drewN (Below.refl _ _) qp)
        replace HE4 : Hid (Below w.heap.size w wp5) := show Below w.heap.size w wp5 from by rw [hwp5]; exact below_drewN HE4.out qp
        clear hwp5
        go_wp2_with fail
        refine Calls.mono (stands_pn aq sq4 _ HQ4.out) ?_
        rintro e wq5 ⟨rfl, qq, hwq5⟩
        replace HP4 : Hid (PN ap sp4 wq5) := show PN ap sp4 wq5 from by rw [hwq5]; exact HP4.out.more (below_drewN (Below.refl _ _) qq)
        replace HQ4 : Hid (PN aq sq4 wq5) := show PN aq sq4 wq5 from by rw [hwq5]; exact HQ4.out.more (below_drewN (Below.refl _ _) qq)
        replace HE4 : Hid (Below w.heap.size w wq5) := show Below w.heap.size w wq5 from by rw [hwq5]; exact below_drewN HE4.out qq
        clear hwq5
        go_wp2_with fail
        go_roundw
        case rel => exact ⟨k + 1, by omega, by go_num, sp4, sq4, HP4.out, HBP4.out, HQ4.out, HBQ4.out, HDJ4.out, HE4.out⟩
        case measure => simp [intOf]; omega
    · obtain ⟨wE, hwE⟩ : ∃ wE, wE = wr := ⟨_, rfl⟩
      subst hwE
      go_wp2_with fail
      refine Calls.mono (HAP ap sp _ HP.out) ?_
      rintro e w5 ⟨rfl, hc5⟩
      have hst5 : PStp ap sp sp wE w5 := ⟨hc5, fun _ h => Or.inl h⟩
      have HE5 : Hid (Below w.heap.size w w5) := show Below w.heap.size w w5 from HBE.out.trans ((PStp.below HP.out hst5).mono HSP.out)
      have HQ5 : Hid (PN aq sq w5) := (two_step HP.out HQ.out HDJ.out hst5).1
      clear hc5 hst5
      go_wp2_with fail
      refine Calls.mono (HAP aq sq _ HQ5.out) ?_
      rintro e w6 ⟨rfl, hc6⟩
      have HE6 : Hid (Below w.heap.size w w6) := show Below w.heap.size w w6 from HE5.out.trans ((PStp.below HQ5.out (s' := sq) ⟨hc6, fun _ h => Or.inl h⟩).mono HSQ.out)
      clear hc6
      go_wp2_with fail
      go_ret
      exact ⟨rfl, HE6.out⟩
theorem cacheAll_law (HAL : Alv Try.prog) (HAP : Apt Try.prog) (me rep ses room other : Int) (hroom : In64 room)
    (ao : Option Addr) (N cap : Nat) (os : List OpC) (w : World) (hl : os.length = N) (hnc : N ≤ cap) (hcm : cap ≤ maxLen) (hok : ∀ o ∈ os, o.ok)
    (hat : 0 < N → ∃ b off, ao = some ⟨b, off, none⟩ ∧ ∀ i o, os[i]? = some o → RowAt w b (off + i * 5) o.row) :
    Calls Try.prog 5 #[.int .i64 me, .int .i64 rep, .int .i64 ses, .int .i64 room, .int .i64 other, .slice ao N cap] w fun e w' => e = .returned (.bool true) ∧ Below w.heap.size w w' := by
  by_cases hp : newCode me rep ses room = 0
  · by_cases hq : newCode other rep ses 1 = 0
    · exact all_11 HAL HAP me rep ses room other hroom hp hq ao N cap os w hl hnc hcm hok hat
    · exact all_10 HAL HAP me rep ses room other hroom hp hq ao N cap os w hl hnc hcm hok hat
  · by_cases hq : newCode other rep ses 1 = 0
    · exact all_01 HAL HAP me rep ses room other hroom hp hq ao N cap os w hl hnc hcm hok hat
    · exact all_00 HAL HAP me rep ses room other hroom hp hq ao N cap os w hl hnc hcm hok hat
end Go.Proofs.Ytadfmnlkfcigoaa
