import Derived.Test.YtehjdkdoalmaeaaAlive
namespace Go.Proofs.Ytehjdkdoalmaeaa
open Go.RowKit Go.PlainAid
set_option linter.unusedVariables false
set_option linter.unusedSimpArgs false
/-- The script's memory, seen from behind a pair's calls. -/
theorem script_at {W W0 wr : World} {b off k : Nat} {o : OpA} (h : OpAt W b (off + k * 7) o) (hb : wr.heap[b]? = W.heap[b]?) :
    wr.cell? ⟨b, off + k * 7, none⟩ = some (.int .i64 o.kind) ∧ wr.cell? ⟨b, off + k * 7 + 1, none⟩ = some (.int .i64 o.who) ∧ wr.cell? ⟨b, off + k * 7 + 2, none⟩ = some (.int .i64 o.i) ∧ wr.cell? ⟨b, off + k * 7 + 3, none⟩ = some (.int .i64 o.j) ∧ wr.cell? ⟨b, off + k * 7 + 4, none⟩ = some (.int .i64 o.l.f) ∧ wr.cell? ⟨b, off + k * 7 + 5, none⟩ = some (.int .i64 o.l.t) ∧ wr.cell? ⟨b, off + k * 7 + 6, none⟩ = some (.slice o.l.ao o.l.bs.length o.l.cap) := by
  have hc : ∀ j, wr.cell? ⟨b, j, none⟩ = W.cell? ⟨b, j, none⟩ := fun j => World.cell?_of_block hb
  have h4 := h.l.c0
  have h5 := h.l.c1
  have h6 := h.l.c2
  rw [show off + k * 7 + 4 + 1 = off + k * 7 + 5 from by omega] at h5
  rw [show off + k * 7 + 4 + 2 = off + k * 7 + 6 from by omega] at h6
  exact ⟨(hc _).trans h.c0, (hc _).trans h.c1, (hc _).trans h.c2, (hc _).trans h.c3, (hc _).trans h4, (hc _).trans h5, (hc _).trans h6⟩
theorem From.lt {W : World} {ao : Option Addr} {bs : List UInt8} (h : From W ao bs) (h0 : 0 < bs.length) {b q : Nat} (e : ao = some ⟨b, q, none⟩) : b < W.heap.size := by
  obtain ⟨b', off, e', hc⟩ := h h0
  rw [e] at e'
  cases e'
  obtain ⟨u, hu⟩ : ∃ u, bs[0]? = some u := ⟨bs[0], List.getElem?_eq_getElem _⟩
  exact World.block_lt_of_cell? W _ (hc 0 u hu)
set_option maxRecDepth 100000 in
set_option maxHeartbeats 3200000 in
theorem holds_any (room : Int) (ao : Option Addr) (N cap : Nat) (os : List OpA) (W : World) (hN : os.length = N) (hmax : N ≤ maxLen) (hok : ∀ o ∈ os, ArgOk W o.l) (hat : 0 < N → ∃ b off, ao = some ⟨b, off, none⟩ ∧ ∀ i o, os[i]? = some o → OpAt W b (off + i * 7) o) :
    Calls Try.prog 26 #[.int .i64 room, .slice ao N cap] W fun e W' => e = .returned (.bool true) ∧ Below W.heap.size W W' := by
  have hmax' : N ≤ 9223372036854775807 := by simpa [maxLen] using hmax
  have hfit := fits_any ao N cap os W hN hmax hok hat
  have HT : Hid _ := hat
  have HO : Hid _ := hok
  clear hat hok
  go_enter Try.func26, Try.ntmps26
  go_wp2_with fail
  refine hfit.mono ?_
  rintro e17 w17 ⟨⟨bt, rfl, hbt⟩, rfl⟩
  cases bt with
  | false =>
    clear hbt
    go_wp2_with fail
    go_ret
    exact ⟨rfl, Below.refl _ _⟩
  | true =>
    obtain ⟨hn2, hsm⟩ := hbt rfl
    have hal := alive_any w17
    have HSM : Hid _ := hsm
    clear hsm hfit
    go_wp2_with fail
    refine hal.mono ?_
    rintro e21 W1 ⟨rfl, hb1⟩
    by_cases hroom : 1 ≤ room ∧ room ≤ 1024
    · obtain ⟨rm, rfl⟩ : ∃ rm : Nat, room = (rm : Int) := ⟨room.toNat, by omega⟩
      have hm := made_yes rm W1 (by omega) (by omega)
      have HB1 : Hid _ := hb1
      clear hb1 hal
      go_wp2_with fail
      refine hm.mono ?_
      rintro e22 W2 ⟨rfl, hw2⟩
      have hbw : Below W1.heap.size W1 W2 := by rw [hw2]; exact newW_below _ _
      have hP0 : PInv W1.heap.size (W1.heap.size + 2) W1.heap.size (W1.heap.size + 1) rm PS.new W2 := by rw [hw2]; exact new_inv W1.heap.size rm W1
      have hs1 : W2.heap.size = W1.heap.size + 3 := by rw [hw2]; exact newW_size _ _
      clear hm hw2
      have hb2 : Below w17.heap.size w17 W2 := HB1.out.trans (hbw.mono HB1.out.size)
      have hz1 := HB1.out.size
      have hR0 : PRel W1.heap.size (W1.heap.size + 2) W1.heap.size (W1.heap.size + 1) rm PS.new W2 0 W2 := PRel.start hP0 (new_ag rm) new_full new_cnt rfl
      have hnh : ∀ b, b < W1.heap.size → ¬ PS.new.has (W1.heap.size + 2) W1.heap.size (W1.heap.size + 1) b := fun b hb q => by have := new_has _ _ _ _ q; omega
      have HR0 : Hid _ := hR0
      have HB2 : Hid _ := hb2
      have HS1 : Hid _ := hs1
      have HNH : Hid _ := hnh
      clear hR0 hP0 hbw hb2 hs1 hnh HB1
      go_wp2_with fail
      go_loopw [8, 9] (fun (i : Value) (_ : Value) (wr : World) => ∃ k : Nat, k ≤ N ∧ i = .int .i64 k ∧ PRel W1.heap.size (W1.heap.size + 2) W1.heap.size (W1.heap.size + 1) rm PS.new W2 k wr) (fun i _ _ => N - (intOf i).toNat)
      case atStart => exact ⟨0, Nat.zero_le _, rfl, HR0.out⟩
      case round =>
        obtain ⟨k, hk, rfl, hR⟩ := hrel
        rename World => wr
        by_cases hlt : k < N
        · obtain ⟨o, ho⟩ : ∃ o, os[k]? = some o := ⟨os[k]'(by omega), List.getElem?_eq_getElem _⟩
          obtain ⟨b, off, rfl, hcell⟩ := HT.out (by omega)
          have hoa := hcell k o ho
          have hbl : b < w17.heap.size := World.block_lt_of_cell? _ _ hoa.c0
          have hblk : wr.heap[b]? = w17.heap[b]? := by
            obtain ⟨s', _, _, _, _, _, hS⟩ := hR
            exact (hS.block b (by rw [HS1.out]; omega) (HNH.out b (by omega))).trans (HB2.out.block b hbl)
          obtain ⟨d0, d1, d2, d3, d4, d5, d6⟩ := script_at (W0 := w17) hoa hblk
          have hmo := List.mem_of_getElem? ho
          have hok := HO.out o hmo
          have hpl := hR.plays (by omega) (by omega) (by rw [HS1.out]; omega) ⟨by omega, by omega, by omega⟩ o (HSM.out o hmo) hok.nil (hok.src.up HB2.out rfl) (fun h0 b q e => by
            have := hok.src.lt h0 e
            exact ⟨by rw [HS1.out]; omega, HNH.out b (by omega)⟩)
          have HPL : Hid _ := hpl
          clear hpl hok hmo hblk hoa hcell hR ho hN
          go_wp2_with fail
          refine (Calls.mono HPL.out ?_)
          rintro e23 w2 ⟨rfl, hR2, _⟩
          have hst := hR2.stands
          have HR2 : Hid _ := hR2
          clear hR2 HPL d0 d1 d2 d3 d4 d5 d6
          go_wp2_with (first | (go_at_call 24; refine hst.mono ?_; rintro e24 w24 ⟨rfl, q24, rfl⟩) | fail)
          go_roundw
          case rel => exact ⟨k + 1, by omega, by go_num, PRel.drewN HR2.out q24⟩
          case measure => simp [intOf]; omega
        · have hap := hR.apart (by omega) (by rw [HS1.out]; omega)
          have HR : Hid _ := hR
          clear hR
          go_wp2_with (first | (go_at_call 25; refine hap.mono ?_; rintro e25 w25 ⟨rfl, ⟨s25, hS25⟩, _⟩) | fail)
          go_ret
          refine ⟨rfl, HB2.out.trans ⟨hS25.os, hS25.tape, hS25.output, hS25.size, fun b hb => hS25.block b (by rw [HS1.out]; omega) (HNH.out b (by omega))⟩⟩
    · have hm := made_no room W1 hroom
      have HB1 : Hid _ := hb1
      clear hb1 hal
      go_wp2_with (first | (go_at_call 22; refine hm.mono ?_; rintro e22 W2 ⟨rfl, rfl⟩) | fail)
      go_loopw [8, 9] (fun (i : Value) (_ : Value) (wr : World) => i = .int .i64 0 ∧ wr = W2) (fun _ _ _ => 0)
      case atStart => exact ⟨rfl, rfl⟩
      case round =>
        obtain ⟨rfl, rfl⟩ := hrel
        by_cases h0 : 0 < N
        · go_wp2_with fail
          go_ret
          exact ⟨rfl, HB1.out⟩
        · go_wp2_with fail
          go_ret
          exact ⟨rfl, HB1.out⟩
end Go.Proofs.Ytehjdkdoalmaeaa
