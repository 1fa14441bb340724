import Derived.Test.YtehjdkdoalmaeaaAll0
namespace Go.Proofs.Ytehjdkdoalmaeaa
open Go.RowKit Go.PlainAid
set_option linter.unusedVariables false
set_option linter.unusedSimpArgs false
set_option maxRecDepth 100000 in
set_option maxHeartbeats 6400000 in
theorem all_both (room other : Int) (ao : Option Addr) (N cap : Nat) (os : List OpA) (W : World) (hN : os.length = N) (hmax : N ≤ maxLen) (hok : ∀ o ∈ os, ArgOk W o.l) (hat : 0 < N → ∃ b off, ao = some ⟨b, off, none⟩ ∧ ∀ i o, os[i]? = some o → OpAt W b (off + i * 7) o) (hp : 1 ≤ room ∧ room ≤ 1024) (hq : 1 ≤ other ∧ other ≤ 1024) :
    Calls Try.prog 6 #[.int .i64 room, .int .i64 other, .slice ao N cap] W fun e W' => e = .returned (.bool true) ∧ Below W.heap.size W W' := by
  have hmax' : N ≤ 9223372036854775807 := by simpa [maxLen] using hmax
  have hfit := fits_any ao N cap os W hN hmax hok hat
  have HT : Hid _ := hat
  have HO : Hid _ := hok
  clear hat hok
  go_enter Try.func6, Try.ntmps6
  go_wp2_with fail
  refine hfit.mono ?_
  rintro e17 w17 ⟨⟨bt, rfl, hbt⟩, rfl⟩
  cases bt with
  | false =>
    clear hbt
    go_wp2_with fail
    go_ret
    exact ⟨rfl, Below.refl _ _⟩
  | true =>
    obtain ⟨hn2, hsm⟩ := hbt rfl
    have hN2 : N ≤ 2000 := by omega
    have hal := alive_any w17
    have HSM : Hid _ := hsm
    clear hsm hfit hbt
    go_wp2_with fail
    refine hal.mono ?_
    rintro e21 W1 ⟨rfl, hb1⟩
    have HB1 : Hid _ := hb1
    have hz1 := hb1.size
    clear hb1 hal
    obtain ⟨rm, rfl⟩ : ∃ rm : Nat, room = (rm : Int) := ⟨room.toNat, by omega⟩
    have hm := made_yes rm W1 (by omega) (by omega)
    go_wp2_with fail
    refine hm.mono ?_
    rintro e22 W2 ⟨rfl, hw2⟩
    have hbw2 : Below W1.heap.size W1 W2 := by rw [hw2]; exact newW_below _ _
    have hP0 : PInv W1.heap.size (W1.heap.size + 2) W1.heap.size (W1.heap.size + 1) rm PS.new W2 := by rw [hw2]; exact new_inv W1.heap.size rm W1
    have hs2 : W2.heap.size = W1.heap.size + 3 := by rw [hw2]; exact newW_size _ _
    clear hm hw2
    obtain ⟨rq, rfl⟩ : ∃ rq : Nat, other = (rq : Int) := ⟨other.toNat, by omega⟩
    have hm := made_yes rq W2 (by omega) (by omega)
    rw [hs2] at hm
    have HBW2 : Hid _ := hbw2
    have HS2 : Hid _ := hs2
    have HP0 : Hid _ := hP0
    clear hbw2 hs2 hP0
    go_wp2_with fail
    refine hm.mono ?_
    rintro e23 W3 ⟨rfl, hw3⟩
    have hbw3 : Below W2.heap.size W2 W3 := by rw [hw3]; exact newW_below _ _
    have hQ0 := new_inv W1.heap.size rq W2
    rw [← hw3, HS2.out] at hQ0
    have hs3 : W3.heap.size = W2.heap.size + 3 := by rw [hw3]; exact newW_size _ _
    rw [HS2.out] at hs3
    clear hm hw3
    have hb13 : Below W1.heap.size W1 W3 := HBW2.out.trans (hbw3.mono (by rw [HS2.out]; omega))
    have hR0 : Two W1.heap.size (W1.heap.size + 2) W1.heap.size (W1.heap.size + 1) rm (W1.heap.size + 3 + 2) (W1.heap.size + 3) (W1.heap.size + 3 + 1) rq W3 0 W3 := ⟨PS.new, PS.new, ⟨HP0.out.below hbw3, new_ag rm, new_full, new_cnt, rfl⟩, ⟨hQ0, new_ag rq, new_full, new_cnt, rfl⟩, fun b h1 h2 => by have := new_has _ _ _ _ h1; have := new_has _ _ _ _ h2; omega, Below.refl _ _⟩
    have hL3 : W1.heap.size ≤ W3.heap.size := hb13.size
    have hb03 : Below w17.heap.size w17 W3 := HB1.out.trans (hb13.mono hz1)
    have HB13 : Hid _ := hb13
    have HB03 : Hid _ := hb03
    have HS3 : Hid _ := hs3
    clear hb13 hb03 hs3 hbw3 HBW2 HP0 hQ0
    have HR0 : Hid _ := hR0
    clear hR0
    go_wp2_with fail
    go_loopw [12, 13] (fun (i : Value) (_ : Value) (wr : World) => ∃ k : Nat, k ≤ N ∧ i = .int .i64 k ∧ Two W1.heap.size (W1.heap.size + 2) W1.heap.size (W1.heap.size + 1) rm (W1.heap.size + 3 + 2) (W1.heap.size + 3) (W1.heap.size + 3 + 1) rq W3 k wr) (fun i _ _ => N - (intOf i).toNat)
    case atStart => exact ⟨0, Nat.zero_le _, rfl, HR0.out⟩
    case round =>
      obtain ⟨k, hk, rfl, hR⟩ := hrel
      rename World => wr
      clear HR0
      have hb3 : Below W1.heap.size W3 wr := by
        obtain ⟨_, _, hb⟩ := hR.one
        exact hb
      by_cases hlt : k < N
      · obtain ⟨o, ho⟩ : ∃ o, os[k]? = some o := ⟨os[k]'(by omega), List.getElem?_eq_getElem _⟩
        obtain ⟨b, off, rfl, hcell⟩ := HT.out (by omega)
        have hoa := hcell k o ho
        have hbl : b < w17.heap.size := World.block_lt_of_cell? _ _ hoa.c0
        have hblk : wr.heap[b]? = w17.heap[b]? := (hb3.block b (by omega)).trans (HB03.out.block b hbl)
        obtain ⟨d0, d1, d2, d3, d4, d5, d6⟩ := script_at (W0 := w17) hoa hblk
        have hmo := List.mem_of_getElem? ho
        have hok := HO.out o hmo
        have hoo : OkOp W1.heap.size W3 o := ⟨HSM.out o hmo, hok.nil, hok.src.up HB03.out rfl, fun h0 b q e => by have := hok.src.lt h0 e; omega⟩
        have HE1 : Hid _ := hoa.c1
        clear hblk hoa hcell ho hok hmo hN
        by_cases hw : o.who.tmod 2 = 0
        · have hw1 : (o.who.tmod 2 != 0) = false := by simp [hw]
          have hw2 : decide (o.who.tmod 2 = 0) = true := by simp [hw]
          have hw3 : (o.who.tmod 2 == 0) = true := by simp [hw]
          have hpl := hR.plays (by omega) (by omega) hL3 ⟨by omega, by omega, by omega⟩ hoo
          have HPL : Hid _ := hpl
          clear hpl hR hoo hb3
          go_wp2_with fail
          refine (Calls.mono HPL.out ?_)
          rintro ep w2 ⟨rfl, hR2⟩
          have hb4 : Below W1.heap.size W3 w2 := by obtain ⟨_, _, hb⟩ := hR2.one; exact hb
          have d1' : w2.cell? ⟨b, off + k * 7 + 1, none⟩ = some (.int .i64 o.who) := (hb4.cell (p := ⟨b, off + k * 7 + 1, none⟩) (show b < W1.heap.size by omega)).trans ((HB03.out.cell (p := ⟨b, off + k * 7 + 1, none⟩) hbl).trans HE1.out)
          clear hb4 d0 d1 d2 d3 d4 d5 d6
          clear HPL
          have hst1 := hR2.one.stands
          have HR2 : Hid _ := hR2
          have hst2 := fun q => (hR2.drewN q).swap.one.stands
          clear hR2
          go_wp2_with fail
          refine hst1.mono ?_
          rintro e24 w24 ⟨rfl, q24, rfl⟩
          go_wp2_with fail
          refine (hst2 q24).mono ?_
          rintro e25 w25 ⟨rfl, q25, rfl⟩
          clear hst1 hst2
          go_wp2_with fail
          go_roundw
          case rel => exact ⟨k + 1, by omega, by go_num, Two.drewN HR2.out (q24 + q25)⟩
          case measure => simp [intOf]; omega
        · have hw1 : (o.who.tmod 2 != 0) = true := by simp [hw]
          have hw2 : decide (o.who.tmod 2 = 0) = false := by simp [hw]
          have hw3 : (o.who.tmod 2 == 0) = false := by simp [hw]
          have hpl := hR.swap.plays (by omega) (by omega) hL3 ⟨by omega, by omega, by omega⟩ hoo
          have HPL : Hid _ := hpl
          clear hpl hR hoo hb3
          go_wp2_with fail
          refine (Calls.mono HPL.out ?_)
          rintro ep w2 ⟨rfl, hR2⟩
          replace hR2 := hR2.swap
          clear HPL
          have hst1 := hR2.one.stands
          have HR2 : Hid _ := hR2
          have hst2 := fun q => (hR2.drewN q).swap.one.stands
          clear hR2
          go_wp2_with fail
          refine hst1.mono ?_
          rintro e24 w24 ⟨rfl, q24, rfl⟩
          go_wp2_with fail
          refine (hst2 q24).mono ?_
          rintro e25 w25 ⟨rfl, q25, rfl⟩
          clear hst1 hst2
          go_wp2_with fail
          go_roundw
          case rel => exact ⟨k + 1, by omega, by go_num, Two.drewN HR2.out (q24 + q25)⟩
          case measure => simp [intOf]; omega
      · have hap := hR.apart (by omega) hL3 ⟨by omega, by omega, by omega⟩
        clear hR
        go_wp2_with fail
        refine hap.mono ?_
        rintro e25 w25 ⟨rfl, hOne⟩
        have hap2 := hOne.apart (by omega) hL3 ⟨by omega, by omega, by omega⟩
        clear hap hOne
        go_wp2_with (first | (go_at_call 25; refine hap2.mono ?_; rintro e26 w26 ⟨rfl, hb26⟩) | fail)
        go_ret
        exact ⟨rfl, HB03.out.trans (hb26.mono hz1)⟩
set_option maxRecDepth 100000 in
set_option maxHeartbeats 6400000 in
theorem all_p (room other : Int) (ao : Option Addr) (N cap : Nat) (os : List OpA) (W : World) (hN : os.length = N) (hmax : N ≤ maxLen) (hok : ∀ o ∈ os, ArgOk W o.l) (hat : 0 < N → ∃ b off, ao = some ⟨b, off, none⟩ ∧ ∀ i o, os[i]? = some o → OpAt W b (off + i * 7) o) (hp : 1 ≤ room ∧ room ≤ 1024) (hq : ¬ (1 ≤ other ∧ other ≤ 1024)) :
    Calls Try.prog 6 #[.int .i64 room, .int .i64 other, .slice ao N cap] W fun e W' => e = .returned (.bool true) ∧ Below W.heap.size W W' := by
  have hmax' : N ≤ 9223372036854775807 := by simpa [maxLen] using hmax
  have hfit := fits_any ao N cap os W hN hmax hok hat
  have HT : Hid _ := hat
  have HO : Hid _ := hok
  clear hat hok
  go_enter Try.func6, Try.ntmps6
  go_wp2_with fail
  refine hfit.mono ?_
  rintro e17 w17 ⟨⟨bt, rfl, hbt⟩, rfl⟩
  cases bt with
  | false =>
    clear hbt
    go_wp2_with fail
    go_ret
    exact ⟨rfl, Below.refl _ _⟩
  | true =>
    obtain ⟨hn2, hsm⟩ := hbt rfl
    have hN2 : N ≤ 2000 := by omega
    have hal := alive_any w17
    have HSM : Hid _ := hsm
    clear hsm hfit hbt
    go_wp2_with fail
    refine hal.mono ?_
    rintro e21 W1 ⟨rfl, hb1⟩
    have HB1 : Hid _ := hb1
    have hz1 := hb1.size
    clear hb1 hal
    obtain ⟨rm, rfl⟩ : ∃ rm : Nat, room = (rm : Int) := ⟨room.toNat, by omega⟩
    have hm := made_yes rm W1 (by omega) (by omega)
    go_wp2_with fail
    refine hm.mono ?_
    rintro e22 W2 ⟨rfl, hw2⟩
    have hbw2 : Below W1.heap.size W1 W2 := by rw [hw2]; exact newW_below _ _
    have hP0 : PInv W1.heap.size (W1.heap.size + 2) W1.heap.size (W1.heap.size + 1) rm PS.new W2 := by rw [hw2]; exact new_inv W1.heap.size rm W1
    have hs2 : W2.heap.size = W1.heap.size + 3 := by rw [hw2]; exact newW_size _ _
    clear hm hw2
    have hm := made_no other W2 hq
    have HBW2 : Hid _ := hbw2
    have HS2 : Hid _ := hs2
    have HP0 : Hid _ := hP0
    clear hbw2 hs2 hP0
    go_wp2_with fail
    refine hm.mono ?_
    rintro e23 W3 ⟨rfl, hw3⟩
    have hbw3 : Below W2.heap.size W2 W3 := by rw [hw3]; exact Below.refl _ _
    have hs3 : W3.heap.size = W2.heap.size := by rw [hw3]
    rw [HS2.out] at hs3
    clear hm hw3
    have hb13 : Below W1.heap.size W1 W3 := HBW2.out.trans (hbw3.mono (by rw [HS2.out]; omega))
    have hR0 : One W1.heap.size (W1.heap.size + 2) W1.heap.size (W1.heap.size + 1) rm W3 0 W3 := ⟨PS.new, ⟨HP0.out.below hbw3, new_ag rm, new_full, new_cnt, rfl⟩, Below.refl _ _⟩
    have hL3 : W1.heap.size ≤ W3.heap.size := hb13.size
    have hb03 : Below w17.heap.size w17 W3 := HB1.out.trans (hb13.mono hz1)
    have HB13 : Hid _ := hb13
    have HB03 : Hid _ := hb03
    have HS3 : Hid _ := hs3
    clear hb13 hb03 hs3 hbw3 HBW2 HP0
    have HR0 : Hid _ := hR0
    clear hR0
    go_wp2_with fail
    go_loopw [12, 13] (fun (i : Value) (_ : Value) (wr : World) => ∃ k : Nat, k ≤ N ∧ i = .int .i64 k ∧ One W1.heap.size (W1.heap.size + 2) W1.heap.size (W1.heap.size + 1) rm W3 k wr) (fun i _ _ => N - (intOf i).toNat)
    case atStart => exact ⟨0, Nat.zero_le _, rfl, HR0.out⟩
    case round =>
      obtain ⟨k, hk, rfl, hR⟩ := hrel
      rename World => wr
      clear HR0
      have hb3 : Below W1.heap.size W3 wr := by
        obtain ⟨_, _, hb⟩ := hR
        exact hb
      by_cases hlt : k < N
      · obtain ⟨o, ho⟩ : ∃ o, os[k]? = some o := ⟨os[k]'(by omega), List.getElem?_eq_getElem _⟩
        obtain ⟨b, off, rfl, hcell⟩ := HT.out (by omega)
        have hoa := hcell k o ho
        have hbl : b < w17.heap.size := World.block_lt_of_cell? _ _ hoa.c0
        have hblk : wr.heap[b]? = w17.heap[b]? := (hb3.block b (by omega)).trans (HB03.out.block b hbl)
        obtain ⟨d0, d1, d2, d3, d4, d5, d6⟩ := script_at (W0 := w17) hoa hblk
        have hmo := List.mem_of_getElem? ho
        have hok := HO.out o hmo
        have hoo : OkOp W1.heap.size W3 o := ⟨HSM.out o hmo, hok.nil, hok.src.up HB03.out rfl, fun h0 b q e => by have := hok.src.lt h0 e; omega⟩
        have HE1 : Hid _ := hoa.c1
        clear hblk hoa hcell ho hok hmo hN
        by_cases hw : o.who.tmod 2 = 0
        · have hw1 : (o.who.tmod 2 != 0) = false := by simp [hw]
          have hw2 : decide (o.who.tmod 2 = 0) = true := by simp [hw]
          have hw3 : (o.who.tmod 2 == 0) = true := by simp [hw]
          have hpl := hR.plays (by omega) (by omega) hL3 ⟨by omega, by omega, by omega⟩ hoo
          have HPL : Hid _ := hpl
          clear hpl hR hoo hb3
          go_wp2_with fail
          refine (Calls.mono HPL.out ?_)
          rintro ep w2 ⟨rfl, hR2⟩
          have hb4 : Below W1.heap.size W3 w2 := by obtain ⟨_, _, hb⟩ := hR2; exact hb
          have d1' : w2.cell? ⟨b, off + k * 7 + 1, none⟩ = some (.int .i64 o.who) := (hb4.cell (p := ⟨b, off + k * 7 + 1, none⟩) (show b < W1.heap.size by omega)).trans ((HB03.out.cell (p := ⟨b, off + k * 7 + 1, none⟩) hbl).trans HE1.out)
          clear hb4 d0 d1 d2 d3 d4 d5 d6
          clear HPL
          have hst1 := hR2.stands
          have HR2 : Hid _ := hR2
          clear hR2
          go_wp2_with fail
          refine hst1.mono ?_
          rintro e24 w24 ⟨rfl, q24, rfl⟩
          clear hst1
          go_wp2_with fail
          go_roundw
          case rel => exact ⟨k + 1, by omega, by go_num, One.drewN HR2.out q24⟩
          case measure => simp [intOf]; omega
        · have hw1 : (o.who.tmod 2 != 0) = true := by simp [hw]
          have hw2 : decide (o.who.tmod 2 = 0) = false := by simp [hw]
          have hw3 : (o.who.tmod 2 == 0) = false := by simp [hw]
          have hR2 := hR.more
          clear hR hoo hb3
          have w2e : wr = wr := rfl
          have hst1 := hR2.stands
          have HR2 : Hid _ := hR2
          clear hR2
          go_wp2_with fail
          refine hst1.mono ?_
          rintro e24 w24 ⟨rfl, q24, rfl⟩
          clear hst1
          go_wp2_with fail
          go_roundw
          case rel => exact ⟨k + 1, by omega, by go_num, One.drewN HR2.out q24⟩
          case measure => simp [intOf]; omega
      · have hap := hR.apart (by omega) hL3 ⟨by omega, by omega, by omega⟩
        clear hR
        go_wp2_with (first | (go_at_call 25; refine hap.mono ?_; rintro e26 w26 ⟨rfl, hb26⟩) | fail)
        go_ret
        exact ⟨rfl, HB03.out.trans (hb26.mono hz1)⟩
set_option maxRecDepth 100000 in
set_option maxHeartbeats 6400000 in
theorem all_q (room other : Int) (ao : Option Addr) (N cap : Nat) (os : List OpA) (W : World) (hN : os.length = N) (hmax : N ≤ maxLen) (hok : ∀ o ∈ os, ArgOk W o.l) (hat : 0 < N → ∃ b off, ao = some ⟨b, off, none⟩ ∧ ∀ i o, os[i]? = some o → OpAt W b (off + i * 7) o) (hp : ¬ (1 ≤ room ∧ room ≤ 1024)) (hq : 1 ≤ other ∧ other ≤ 1024) :
    Calls Try.prog 6 #[.int .i64 room, .int .i64 other, .slice ao N cap] W fun e W' => e = .returned (.bool true) ∧ Below W.heap.size W W' := by
  have hmax' : N ≤ 9223372036854775807 := by simpa [maxLen] using hmax
  have hfit := fits_any ao N cap os W hN hmax hok hat
  have HT : Hid _ := hat
  have HO : Hid _ := hok
  clear hat hok
  go_enter Try.func6, Try.ntmps6
  go_wp2_with fail
  refine hfit.mono ?_
  rintro e17 w17 ⟨⟨bt, rfl, hbt⟩, rfl⟩
  cases bt with
  | false =>
    clear hbt
    go_wp2_with fail
    go_ret
    exact ⟨rfl, Below.refl _ _⟩
  | true =>
    obtain ⟨hn2, hsm⟩ := hbt rfl
    have hN2 : N ≤ 2000 := by omega
    have hal := alive_any w17
    have HSM : Hid _ := hsm
    clear hsm hfit hbt
    go_wp2_with fail
    refine hal.mono ?_
    rintro e21 W1 ⟨rfl, hb1⟩
    have HB1 : Hid _ := hb1
    have hz1 := hb1.size
    clear hb1 hal
    have hm := made_no room W1 hp
    go_wp2_with fail
    refine hm.mono ?_
    rintro e22 W2 ⟨rfl, hw2⟩
    have hbw2 : Below W1.heap.size W1 W2 := by rw [hw2]; exact Below.refl _ _
    have hs2 : W2.heap.size = W1.heap.size := by rw [hw2]
    clear hm hw2
    obtain ⟨rq, rfl⟩ : ∃ rq : Nat, other = (rq : Int) := ⟨other.toNat, by omega⟩
    have hm := made_yes rq W2 (by omega) (by omega)
    rw [hs2] at hm
    have HBW2 : Hid _ := hbw2
    have HS2 : Hid _ := hs2
    clear hbw2 hs2
    go_wp2_with fail
    refine hm.mono ?_
    rintro e23 W3 ⟨rfl, hw3⟩
    have hbw3 : Below W2.heap.size W2 W3 := by rw [hw3]; exact newW_below _ _
    have hQ0 := new_inv W1.heap.size rq W2
    rw [← hw3, HS2.out] at hQ0
    have hs3 : W3.heap.size = W2.heap.size + 3 := by rw [hw3]; exact newW_size _ _
    rw [HS2.out] at hs3
    clear hm hw3
    have hb13 : Below W1.heap.size W1 W3 := HBW2.out.trans (hbw3.mono (by rw [HS2.out]; omega))
    have hR0 : One W1.heap.size (W1.heap.size + 2) W1.heap.size (W1.heap.size + 1) rq W3 0 W3 := ⟨PS.new, ⟨hQ0, new_ag rq, new_full, new_cnt, rfl⟩, Below.refl _ _⟩
    have hL3 : W1.heap.size ≤ W3.heap.size := hb13.size
    have hb03 : Below w17.heap.size w17 W3 := HB1.out.trans (hb13.mono hz1)
    have HB13 : Hid _ := hb13
    have HB03 : Hid _ := hb03
    have HS3 : Hid _ := hs3
    clear hb13 hb03 hs3 hbw3 HBW2 hQ0
    have HR0 : Hid _ := hR0
    clear hR0
    go_wp2_with fail
    go_loopw [12, 13] (fun (i : Value) (_ : Value) (wr : World) => ∃ k : Nat, k ≤ N ∧ i = .int .i64 k ∧ One W1.heap.size (W1.heap.size + 2) W1.heap.size (W1.heap.size + 1) rq W3 k wr) (fun i _ _ => N - (intOf i).toNat)
    case atStart => exact ⟨0, Nat.zero_le _, rfl, HR0.out⟩
    case round =>
      obtain ⟨k, hk, rfl, hR⟩ := hrel
      rename World => wr
      clear HR0
      have hb3 : Below W1.heap.size W3 wr := by
        obtain ⟨_, _, hb⟩ := hR
        exact hb
      by_cases hlt : k < N
      · obtain ⟨o, ho⟩ : ∃ o, os[k]? = some o := ⟨os[k]'(by omega), List.getElem?_eq_getElem _⟩
        obtain ⟨b, off, rfl, hcell⟩ := HT.out (by omega)
        have hoa := hcell k o ho
        have hbl : b < w17.heap.size := World.block_lt_of_cell? _ _ hoa.c0
        have hblk : wr.heap[b]? = w17.heap[b]? := (hb3.block b (by omega)).trans (HB03.out.block b hbl)
        obtain ⟨d0, d1, d2, d3, d4, d5, d6⟩ := script_at (W0 := w17) hoa hblk
        have hmo := List.mem_of_getElem? ho
        have hok := HO.out o hmo
        have hoo : OkOp W1.heap.size W3 o := ⟨HSM.out o hmo, hok.nil, hok.src.up HB03.out rfl, fun h0 b q e => by have := hok.src.lt h0 e; omega⟩
        have HE1 : Hid _ := hoa.c1
        clear hblk hoa hcell ho hok hmo hN
        by_cases hw : o.who.tmod 2 = 0
        · have hw1 : (o.who.tmod 2 != 0) = false := by simp [hw]
          have hw2 : decide (o.who.tmod 2 = 0) = true := by simp [hw]
          have hw3 : (o.who.tmod 2 == 0) = true := by simp [hw]
          have hR2 := hR.more
          clear hR hoo hb3
          have w2e : wr = wr := rfl
          have hst1 := hR2.stands
          have HR2 : Hid _ := hR2
          clear hR2
          go_wp2_with fail
          refine hst1.mono ?_
          rintro e24 w24 ⟨rfl, q24, rfl⟩
          clear hst1
          go_wp2_with fail
          go_roundw
          case rel => exact ⟨k + 1, by omega, by go_num, One.drewN HR2.out q24⟩
          case measure => simp [intOf]; omega
        · have hw1 : (o.who.tmod 2 != 0) = true := by simp [hw]
          have hw2 : decide (o.who.tmod 2 = 0) = false := by simp [hw]
          have hw3 : (o.who.tmod 2 == 0) = false := by simp [hw]
          have hpl := hR.plays (by omega) (by omega) hL3 ⟨by omega, by omega, by omega⟩ hoo
          have HPL : Hid _ := hpl
          clear hpl hR hoo hb3
          go_wp2_with fail
          refine (Calls.mono HPL.out ?_)
          rintro ep w2 ⟨rfl, hR2⟩
          clear HPL
          have hst1 := hR2.stands
          have HR2 : Hid _ := hR2
          clear hR2
          go_wp2_with fail
          refine hst1.mono ?_
          rintro e24 w24 ⟨rfl, q24, rfl⟩
          clear hst1
          go_wp2_with fail
          go_roundw
          case rel => exact ⟨k + 1, by omega, by go_num, One.drewN HR2.out q24⟩
          case measure => simp [intOf]; omega
      · have hap := hR.apart (by omega) hL3 ⟨by omega, by omega, by omega⟩
        clear hR
        go_wp2_with (first | (go_at_call 25; refine hap.mono ?_; rintro e26 w26 ⟨rfl, hb26⟩) | fail)
        go_ret
        exact ⟨rfl, HB03.out.trans (hb26.mono hz1)⟩
set_option maxRecDepth 100000 in
set_option maxHeartbeats 6400000 in
theorem all_none (room other : Int) (ao : Option Addr) (N cap : Nat) (os : List OpA) (W : World) (hN : os.length = N) (hmax : N ≤ maxLen) (hok : ∀ o ∈ os, ArgOk W o.l) (hat : 0 < N → ∃ b off, ao = some ⟨b, off, none⟩ ∧ ∀ i o, os[i]? = some o → OpAt W b (off + i * 7) o) (hp : ¬ (1 ≤ room ∧ room ≤ 1024)) (hq : ¬ (1 ≤ other ∧ other ≤ 1024)) :
    Calls Try.prog 6 #[.int .i64 room, .int .i64 other, .slice ao N cap] W fun e W' => e = .returned (.bool true) ∧ Below W.heap.size W W' := by
  have hmax' : N ≤ 9223372036854775807 := by simpa [maxLen] using hmax
  have hfit := fits_any ao N cap os W hN hmax hok hat
  have HT : Hid _ := hat
  have HO : Hid _ := hok
  clear hat hok
  go_enter Try.func6, Try.ntmps6
  go_wp2_with fail
  refine hfit.mono ?_
  rintro e17 w17 ⟨⟨bt, rfl, hbt⟩, rfl⟩
  cases bt with
  | false =>
    clear hbt
    go_wp2_with fail
    go_ret
    exact ⟨rfl, Below.refl _ _⟩
  | true =>
    obtain ⟨hn2, hsm⟩ := hbt rfl
    have hN2 : N ≤ 2000 := by omega
    have hal := alive_any w17
    have HSM : Hid _ := hsm
    clear hsm hfit hbt
    go_wp2_with fail
    refine hal.mono ?_
    rintro e21 W1 ⟨rfl, hb1⟩
    have HB1 : Hid _ := hb1
    have hz1 := hb1.size
    clear hb1 hal
    have hm := made_no room W1 hp
    go_wp2_with fail
    refine hm.mono ?_
    rintro e22 W2 ⟨rfl, hw2⟩
    have hbw2 : Below W1.heap.size W1 W2 := by rw [hw2]; exact Below.refl _ _
    have hs2 : W2.heap.size = W1.heap.size := by rw [hw2]
    clear hm hw2
    have hm := made_no other W2 hq
    have HBW2 : Hid _ := hbw2
    have HS2 : Hid _ := hs2
    clear hbw2 hs2
    go_wp2_with fail
    refine hm.mono ?_
    rintro e23 W3 ⟨rfl, hw3⟩
    have hbw3 : Below W2.heap.size W2 W3 := by rw [hw3]; exact Below.refl _ _
    have hs3 : W3.heap.size = W2.heap.size := by rw [hw3]
    rw [HS2.out] at hs3
    clear hm hw3
    have hb13 : Below W1.heap.size W1 W3 := HBW2.out.trans (hbw3.mono (by rw [HS2.out]; omega))
    have hL3 : W1.heap.size ≤ W3.heap.size := hb13.size
    have hb03 : Below w17.heap.size w17 W3 := HB1.out.trans (hb13.mono hz1)
    have HB13 : Hid _ := hb13
    have HB03 : Hid _ := hb03
    have HS3 : Hid _ := hs3
    clear hb13 hb03 hs3 hbw3 HBW2
    go_wp2_with fail
    go_loopw [12, 13] (fun (i : Value) (_ : Value) (wr : World) => ∃ k : Nat, k ≤ N ∧ i = .int .i64 k ∧ wr = W3) (fun i _ _ => N - (intOf i).toNat)
    case atStart => exact ⟨0, Nat.zero_le _, rfl, rfl⟩
    case round =>
      obtain ⟨k, hk, rfl, hwr⟩ := hrel
      rename World => wr
      by_cases hlt : k < N
      · obtain ⟨o, ho⟩ : ∃ o, os[k]? = some o := ⟨os[k]'(by omega), List.getElem?_eq_getElem _⟩
        obtain ⟨b, off, rfl, hcell⟩ := HT.out (by omega)
        have hoa := hcell k o ho
        have hbl : b < w17.heap.size := World.block_lt_of_cell? _ _ hoa.c0
        have hblk : wr.heap[b]? = w17.heap[b]? := by rw [hwr]; exact HB03.out.block b hbl
        obtain ⟨d0, d1, d2, d3, d4, d5, d6⟩ := script_at (W0 := w17) hoa hblk
        have hmo := List.mem_of_getElem? ho
        have hok := HO.out o hmo
        have hoo : OkOp W1.heap.size W3 o := ⟨HSM.out o hmo, hok.nil, hok.src.up HB03.out rfl, fun h0 b q e => by have := hok.src.lt h0 e; omega⟩
        have HE1 : Hid _ := hoa.c1
        clear hblk hoa hcell ho hok hmo hN
        by_cases hw : o.who.tmod 2 = 0
        · have hw1 : (o.who.tmod 2 != 0) = false := by simp [hw]
          have hw2 : decide (o.who.tmod 2 = 0) = true := by simp [hw]
          have hw3 : (o.who.tmod 2 == 0) = true := by simp [hw]
          have HWR : Hid _ := hwr
          clear hwr
          go_wp2_with fail
          go_roundw
          case rel => exact ⟨k + 1, by omega, by go_num, HWR.out⟩
          case measure => simp [intOf]; omega
        · have hw1 : (o.who.tmod 2 != 0) = true := by simp [hw]
          have hw2 : decide (o.who.tmod 2 = 0) = false := by simp [hw]
          have hw3 : (o.who.tmod 2 == 0) = false := by simp [hw]
          have HWR : Hid _ := hwr
          clear hwr
          go_wp2_with fail
          go_roundw
          case rel => exact ⟨k + 1, by omega, by go_num, HWR.out⟩
          case measure => simp [intOf]; omega
      · have HWR : Hid _ := hwr
        clear hwr
        go_wp2_with fail
        go_ret
        exact ⟨rfl, by rw [HWR.out]; exact HB03.out⟩
theorem all_law (room other : Int) (ao : Option Addr) (N cap : Nat) (os : List OpA) (W : World) (hN : os.length = N) (hmax : N ≤ maxLen) (hok : ∀ o ∈ os, ArgOk W o.l) (hat : 0 < N → ∃ b off, ao = some ⟨b, off, none⟩ ∧ ∀ i o, os[i]? = some o → OpAt W b (off + i * 7) o) :
    Calls Try.prog 6 #[.int .i64 room, .int .i64 other, .slice ao N cap] W fun e W' => e = .returned (.bool true) ∧ Below W.heap.size W W' := by
  by_cases hp : 1 ≤ room ∧ room ≤ 1024 <;> by_cases hq : 1 ≤ other ∧ other ≤ 1024
  · exact all_both room other ao N cap os W hN hmax hok hat hp hq
  · exact all_p room other ao N cap os W hN hmax hok hat hp hq
  · exact all_q room other ao N cap os W hN hmax hok hat hp hq
  · exact all_none room other ao N cap os W hN hmax hok hat hp hq
end Go.Proofs.Ytehjdkdoalmaeaa
