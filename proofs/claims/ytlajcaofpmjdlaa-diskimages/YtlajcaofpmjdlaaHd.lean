import Derived.Test.YtlajcaofpmjdlaaTe3
import Derived.Deep.Cut
namespace Go.Proofs.Ytlajcaofpmjdlaa
open Go.RowKit Go.PlainAid
set_option linter.unusedVariables false
set_option linter.unusedSimpArgs false
/-- A new pair, or none. -/
def PairO (L : Nat) (v : Value) (w : World) : Prop := v = .pointer none ∨ ∃ pb p s rb, v = .pointer (some ⟨pb, 0, none⟩) ∧ Mid L pb p s rb [] w 0 0 w
theorem held_nil {L : Nat} (w : World) : Held ([] : List (Ent L)) w := ⟨(fun e he => by cases he), List.Pairwise.nil⟩
theorem made_any {L : Nat} (i : Int) (w : World) (hL : L ≤ w.heap.size) : Calls Try.prog 30 #[.int .i64 i] w fun e w' => ∃ v, e = .returned (.tuple #[v, .bool true]) ∧ PairO L v w' ∧ Below w.heap.size w w' := by
  by_cases h : i < 1 ∨ 65536 < i
  · refine (made_no i w h).mono ?_
    rintro e w' ⟨rfl, rfl⟩
    exact ⟨_, rfl, Or.inl rfl, Below.refl _ _⟩
  · obtain ⟨n, hn⟩ : ∃ n : Nat, i = (n : Int) := ⟨i.toNat, by omega⟩
    subst hn
    refine (made_yes (L := L) (R := []) n w (by omega) (held_nil w) hL).mono ?_
    rintro e w' ⟨pb, p, s, rb, rfl, hp, hb⟩
    exact ⟨_, rfl, Or.inr ⟨pb, p, s, rb, rfl, sv0, _, _, _, 0, [], _, _, Nat.le_refl _, sv0_ok 0, AgD.new n, Nat.le_refl _, hp, Below.refl _ _⟩, hb⟩
theorem taken_any {L : Nat} {vo : Option Addr} {vn vc : Nat} {bs : List UInt8} (w : World) (hb : By w (.slice vo vn vc) bs) (hs : vn ≤ 4194304) (hL : L ≤ w.heap.size) : Calls Try.prog 31 #[.slice vo vn vc] w fun e w' => ∃ v, e = .returned (.tuple #[v, .bool true]) ∧ PairO L v w' ∧ Below w.heap.size w w' := by
  by_cases h : badImg vn
  · refine (taken_no w hb hs h).mono ?_
    rintro e w' ⟨rfl, hb'⟩
    exact ⟨_, rfl, Or.inl rfl, hb'⟩
  · have hv : vn = vn / 512 * 512 ∧ 1 ≤ vn / 512 := by unfold badImg at h; omega
    have hbl : bs.length = vn := by obtain ⟨_, _, _, e, e2, _⟩ := id hb; cases e; exact e2
    refine (taken_yes (L := L) (R := []) w hb hs hv.1 hv.2 (held_nil w) hL).mono ?_
    rintro e w' ⟨pb, p, s, rb, fv, rfl, hp, hb'⟩
    exact ⟨_, rfl, Or.inr ⟨pb, p, s, rb, rfl, sv0, _, _, _, 0, [], _, _, Nat.le_refl _, sv0_ok 0, AgD.fromI _ bs (by rw [hbl]; exact hv.1), Nat.le_refl _, hp, Below.refl _ _⟩, hb'⟩
/-- What holds asks of apart. -/
def ApC (L : Nat) : Prop := ∀ (pb : Nat) (S : SV) (dp rp lent : Value) (n : Nat) (R : List (Ent L)) (w : World), PH L pb S dp rp lent n R w → S.Ok n → Calls Try.prog 33 #[.pointer (some ⟨pb, 2, none⟩)] w fun e w' => e = .returned (.bool true) ∧ Below L w w'
set_option maxRecDepth 100000 in
set_option maxHeartbeats 6400000 in
theorem holds_any (sec : Int) {vo : Option Addr} {vn vc : Nat} {bs : List UInt8} {v : Value} {os : List OpV} (lo hi : Int) (w : World) (hb : By w (.slice vo vn vc) bs) (hS : ∀ w', Below w.heap.size w w' → Scr w.heap.size [] w' v os) (hN : os.length ≤ 9223372036854775806) (hB : ∀ o ∈ os, o.bs.length ≤ 1125899906842624) (hO : ∀ o ∈ os, o.n ≤ 9223372036854775807)
    (hT : ∀ (pb p s rb : Nat) (W : World) (o : OpV), o ∈ os → Below w.heap.size w W → o.bs.length ≤ 4194304 → lo ≤ o.kind → o.kind ≤ hi → TelC w.heap.size pb p s rb [] W o) (hA : ApC w.heap.size) :
    Calls Try.prog 34 #[.int .i64 sec, .slice vo vn vc, v, .int .i64 lo, .int .i64 hi] w fun e w' => e = .returned (.bool true) ∧ Below w.heap.size w w' := by
  have HFI : Hid _ := fits_any sec (vo := vo) (vn := vn) (vc := vc) w (hS w (Below.refl _ _)) hN hB
  have HS : Hid (∀ w', Below w.heap.size w w' → Scr w.heap.size [] w' v os) := hS
  have HO : Hid (∀ o ∈ os, o.n ≤ 9223372036854775807 ∧ True) := fun o ho => ⟨hO o ho, trivial⟩
  have HT : Hid (∀ (pb p s rb : Nat) (W : World) (o : OpV), o ∈ os → Below w.heap.size w W → o.bs.length ≤ 4194304 → lo ≤ o.kind → o.kind ≤ hi → TelC w.heap.size pb p s rb [] W o) := hT
  have HAP : Hid (ApC w.heap.size) := hA
  have HBY : Hid (By w (.slice vo vn vc) bs ∧ True) := ⟨hb, trivial⟩
  clear hS hO hT hA hb hN hB
  go_enter Try.func34, Try.ntmps34
  go_wp2_with fail
  refine Calls.mono HFI.out ?_
  rintro e w0 ⟨b, rfl, hw0, hfit⟩
  replace hw0 := hw0.symm
  subst hw0
  clear HFI
  cases b with
  | false =>
    clear hfit
    go_wp2_with fail
    go_ret
    exact ⟨rfl, Below.refl _ _⟩
  | true =>
    have HFT : Hid (os.length ≤ 300 ∧ (∀ o ∈ os, o.bs.length ≤ 4194304) ∧ vn ≤ 4194304) := hfit rfl
    clear hfit
    have HAL : Hid _ := alive_yes w
    go_wp2_with fail
    refine Calls.mono HAL.out ?_
    rintro e w1 ⟨rfl, hb1⟩
    have HMD : Hid _ := made_any (L := w.heap.size) sec w1 hb1.size
    have HB1 : Hid (Below w.heap.size w w1) := hb1
    clear HAL hb1
    go_wp2_with fail
    refine Calls.mono HMD.out ?_
    rintro e w2 ⟨v12, rfl, hP, hb2⟩
    clear HMD
    have HB2 : Hid (Below w.heap.size w w2) := HB1.out.trans (hb2.mono HB1.out.size)
    clear HB1 hb2
    by_cases hv0 : 0 < vn
    · have HTK : Hid _ := taken_any (L := w.heap.size) w2 (HBY.out.1.keep HB2.out) HFT.out.2.2 HB2.out.size
      have hvi : (0 : Int) < (vn : Int) := by omega
      clear hP
      go_wp2_with fail
      refine Calls.mono HTK.out ?_
      rintro e w3 ⟨v13, rfl, hP, hb3⟩
      clear HTK
      have HB3 : Hid (Below w.heap.size w w3) := HB2.out.trans (hb3.mono HB2.out.size)
      clear HB2 hb3
      have HB2 : Hid (Below w.heap.size w w3) := HB3.out
      clear HB3
      rcases hP with e | ⟨pbq, p, s, rb, e, hm⟩
      · subst e
        have HF : Hid (Below w.heap.size w w3) := HB2.out
        clear HB2
        go_wp2_with fail
        go_ret
        exact ⟨rfl, HF.out⟩
      · subst e
        have HPL : Hid _ := plays_any lo hi w3 0 0 hm (fun w' hb _ => HS.out w' (HB2.out.trans hb)) (fun o ho => ⟨(HO.out o ho).1, Nat.le_trans (HFT.out.2.1 o ho) (by decide)⟩) (fun o ho h1 h2 => HT.out pbq p s rb w3 o ho HB2.out (HFT.out.2.1 o ho) h1 h2) (by have := HFT.out.1; omega) (by have := HFT.out.1; omega)
        clear hm
        go_wp2_with fail
        refine Calls.mono HPL.out ?_
        rintro e w5 ⟨rfl, S, fv, lv, lent, n, zs, x, r, hn, hk, _, _, hp, hb5⟩
        clear HPL
        have HAC : Hid _ := HAP.out pbq S _ _ lent n _ w5 hp hk
        have HB5 : Hid (Below w.heap.size w w5) := HB2.out.trans hb5
        clear hn hk hp hb5 HB2
        go_wp2_with fail
        refine Calls.mono HAC.out ?_
        rintro e w6 ⟨rfl, hb6⟩
        have HF : Hid (Below w.heap.size w w6) := HB5.out.trans hb6
        clear HAC HB5 hb6
        go_wp2_with fail
        go_ret
        exact ⟨rfl, HF.out⟩
    · have hv0' : vn = 0 := by omega
      subst hv0'
      rcases hP with e | ⟨pbq, p, s, rb, e, hm⟩
      · subst e
        have HF : Hid (Below w.heap.size w w2) := HB2.out
        clear HB2
        go_wp2_with fail
        go_ret
        exact ⟨rfl, HF.out⟩
      · subst e
        have HPL : Hid _ := plays_any lo hi w2 0 0 hm (fun w' hb _ => HS.out w' (HB2.out.trans hb)) (fun o ho => ⟨(HO.out o ho).1, Nat.le_trans (HFT.out.2.1 o ho) (by decide)⟩) (fun o ho h1 h2 => HT.out pbq p s rb w2 o ho HB2.out (HFT.out.2.1 o ho) h1 h2) (by have := HFT.out.1; omega) (by have := HFT.out.1; omega)
        clear hm
        go_wp2_with fail
        refine Calls.mono HPL.out ?_
        rintro e w5 ⟨rfl, S, fv, lv, lent, n, zs, x, r, hn, hk, _, _, hp, hb5⟩
        clear HPL
        have HAC : Hid _ := HAP.out pbq S _ _ lent n _ w5 hp hk
        have HB5 : Hid (Below w.heap.size w w5) := HB2.out.trans hb5
        clear hn hk hp hb5 HB2
        go_wp2_with fail
        refine Calls.mono HAC.out ?_
        rintro e w6 ⟨rfl, hb6⟩
        have HF : Hid (Below w.heap.size w w6) := HB5.out.trans hb6
        clear HAC HB5 hb6
        go_wp2_with fail
        go_ret
        exact ⟨rfl, HF.out⟩
end Go.Proofs.Ytlajcaofpmjdlaa
