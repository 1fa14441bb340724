import Derived.Test.YtjpdcahodmomgaaJn16
namespace Go.Proofs.Ytjpdcahodmomgaa
open Go.RowKit Go.PlainAid
set_option linter.unusedVariables false
set_option linter.unusedSimpArgs false
/-- Lists of bytes that a slice holds. -/
def Rows (w : World) (v : Value) (ls : List (List UInt8)) : Prop := ∃ ao c, v = .slice ao ls.length c ∧ ∀ i bs, ls[i]? = some bs → ∃ b off uo k uc, ao = some ⟨b, off, none⟩ ∧ w.cell? ⟨b, off + i, none⟩ = some (.slice uo k uc) ∧ By w (.slice uo k uc) bs
theorem Rows.more {w w' : World} {v : Value} {ls : List (List UInt8)} (h : Rows w v ls) (hb : Below w.heap.size w w') : Rows w' v ls := by
  obtain ⟨ao, c, h1, h2⟩ := h
  refine ⟨ao, c, h1, fun i bs hi => ?_⟩
  obtain ⟨b, off, uo, k, uc, e1, e2, e3⟩ := h2 i bs hi
  exact ⟨b, off, uo, k, uc, e1, (hb.cell (World.block_lt_of_cell? _ _ e2)).trans e2, e3.keep hb⟩
set_option maxRecDepth 100000 in
theorem at_no {L jb : Nat} {y : JV} {R : List (Ent L)} (i : Int) (w : World) (h : Held (y.es L jb ++ R) w) (hi : i < 0 ∨ (y.recs.length : Int) ≤ i) (hr : y.recs.length ≤ 100000) :
    Calls Try.prog 32 #[.pointer (some ⟨jb, 0, none⟩), .int .i64 i] w fun e w' => e = .returned (.tuple #[.slice none 0 0, .int .i64 1]) ∧ w' = w := by
  obtain ⟨ro, rc, hrv⟩ := tail_val (jrow h)
  have c1 : w.cell? ⟨jb, 1, none⟩ = some (.slice ro y.recs.length rc) := ((jbox h).cell 1).trans (congrArg some hrv)
  obtain ⟨n, hn⟩ : ∃ n, n = y.recs.length := ⟨_, rfl⟩
  rw [← hn] at c1 hi hr
  clear h hrv hn
  by_cases h0 : i < 0
  · clear hi
    go_enter Try.func32, Try.ntmps32
    go_wp2_with fail
    go_ret2
    exact ⟨rfl, rfl⟩
  · have h1 : (n : Int) ≤ i := by omega
    clear hi
    go_enter Try.func32, Try.ntmps32
    go_wp2_with fail
    go_ret2
    exact ⟨rfl, rfl⟩
set_option maxRecDepth 100000 in
set_option maxHeartbeats 1600000 in
theorem tells_yes {L jb : Nat} {y : JV} {R : List (Ent L)} {v : Value} {ls : List (List UInt8)} (w : World) (h : Held (y.es L jb ++ R) w) (hls : y.recs.map Prod.snd = ls) (hl8 : ∀ d ∈ y.recs, d.2.length ≤ 8192) (hr : y.recs.length ≤ 100000) (hv : Rows w v ls) :
    Calls Try.prog 19 #[.pointer (some ⟨jb, 0, none⟩), v] w fun e w' => e = .returned (.bool true) ∧ Below w.heap.size w w' := by
  obtain ⟨m, hm⟩ : ∃ m, m = y.recs.length := ⟨_, rfl⟩
  have hlm : ls.length = m := by rw [← hls, List.length_map, hm]
  obtain ⟨ao, c, rfl, hrow⟩ := hv
  have HV : Hid (∀ W, Below w.heap.size w W → ∀ i bs, ls[i]? = some bs → ∃ b off uo k uc, ao = some ⟨b, off, none⟩ ∧ W.cell? ⟨b, off + i, none⟩ = some (.slice uo k uc) ∧ By W (.slice uo k uc) bs) := fun W hW i bs hi => by
    obtain ⟨b, off, uo, k, uc, e1, e2, e3⟩ := hrow i bs hi
    exact ⟨b, off, uo, k, uc, e1, (hW.cell (World.block_lt_of_cell? _ _ e2)).trans e2, e3.keep hW⟩
  have HLN : Hid (∀ W, Below w.heap.size w W → Calls Try.prog 31 #[.pointer (some ⟨jb, 0, none⟩)] W fun e w' => e = .returned (.int .i64 (m : Int)) ∧ w' = W) := fun W hW => by
    rw [hm]; exact len_any W (h.more hW) (by omega)
  have HAT : Hid (∀ (W : World) (i : Nat), Below w.heap.size w W → i < m → ∃ bs, ls[i]? = some bs ∧ Calls Try.prog 32 #[.pointer (some ⟨jb, 0, none⟩), .int .i64 (i : Int)] W fun e w' => ∃ uo k uc, e = .returned (.tuple #[.slice uo k uc, .int .i64 0]) ∧ By w' (.slice uo k uc) bs ∧ Below w.heap.size w w') := fun W i hW hi => by
    have hd : y.recs[i]? = some (y.recs[i]'(by omega)) := List.getElem?_eq_getElem _
    refine ⟨(y.recs[i]'(by omega)).2, by subst hls; exact (List.getElem?_map ..).trans (congrArg (Option.map Prod.snd) hd), ?_⟩
    refine (at_yes W (h.more hW) hd (hl8 _ (List.getElem_mem _)) hr).mono ?_
    rintro e w' ⟨v', rfl, h1, h2⟩
    obtain ⟨uo, uc, rfl, _⟩ := own_slice h1
    exact ⟨uo, _, uc, rfl, own_by h1, hW.trans (h2.mono hW.size)⟩
  have HNO : Hid (∀ (W : World) (z : Int), Below w.heap.size w W → (z < 0 ∨ (m : Int) ≤ z) → Calls Try.prog 32 #[.pointer (some ⟨jb, 0, none⟩), .int .i64 z] W fun e w' => e = .returned (.tuple #[.slice none 0 0, .int .i64 1]) ∧ w' = W) := fun W z hW hz => at_no z W (h.more hW) (by rw [← hm]; exact hz) hr
  rw [hlm]
  have hmb : m ≤ 100000 := by omega
  have HL1 : Hid _ := HLN.out w (Below.refl _ _)
  have HB0 : Hid (Below w.heap.size w w) := Below.refl _ _
  clear h hls hl8 hr hrow hm hlm HLN
  go_enter Try.func19, Try.ntmps19
  go_wp2_with fail
  refine Calls.mono HL1.out ?_
  rintro e wo ⟨rfl, hwo⟩
  replace hwo := hwo.symm
  subst hwo
  clear HL1
  go_wp2_with fail
  go_loopw [5] (fun s5 wr => ∃ i : Nat, i ≤ m ∧ s5 = .int .i64 (i : Int) ∧ Below w.heap.size w wr) (fun s5 _ => m - (intOf s5).toNat)
  case atStart => exact ⟨0, Nat.zero_le _, rfl, HB0.out⟩
  case round =>
    clear HB0
    obtain ⟨i, hi, rfl, hb⟩ := hrel
    by_cases hlt : i < m
    · obtain ⟨bs, hbs, hc⟩ := HAT.out wr i hb hlt
      have HC : Hid _ := hc
      have hlti : (i : Int) < (m : Int) := by omega
      clear hc hb
      go_wp2_with fail
      refine Calls.mono HC.out ?_
      rintro e w1 ⟨uo, k, uc, rfl, hby, hb1⟩
      clear HC
      obtain ⟨b, off, to, tk, tc, rfl, hcell, hbt⟩ := HV.out w1 hb1 i bs hbs
      have HS : Hid (Calls Try.prog 27 #[.slice uo k uc, .slice to tk tc] w1 fun e w' => e = .returned (.bool true) ∧ w' = w1) := by
        have h1 := same_any w1 hby hbt
        rw [beq_self_eq_true] at h1
        exact h1
      have HB1 : Hid (Below w.heap.size w w1) := hb1
      clear hby hbt hbs hb1
      go_wp2_with fail
      refine Calls.mono HS.out ?_
      rintro e wo ⟨rfl, hwo⟩
      replace hwo := hwo.symm
      subst hwo
      clear HS hcell
      go_wp2_with fail
      go_roundw
      case rel => exact ⟨i + 1, by omega, by go_num, HB1.out⟩
      case measure => simp [intOf]; omega
    · obtain rfl : i = m := by omega
      have H1 : Hid _ := HNO.out wr (i : Int) hb (Or.inr (Int.le_refl _))
      have H2 : Hid _ := HNO.out wr (-1) hb (Or.inl (by decide))
      have HN1 : Hid _ := num_any 1 wr
      have HB1 : Hid (Below w.heap.size w wr) := hb
      clear hb HAT HNO HV
      go_wp2_with fail
      refine Calls.mono H1.out ?_
      rintro e wo ⟨rfl, hwo⟩
      replace hwo := hwo.symm
      subst hwo
      clear H1
      go_wp2_with fail
      refine Calls.mono H2.out ?_
      rintro e wo ⟨rfl, hwo⟩
      replace hwo := hwo.symm
      subst hwo
      clear H2
      go_wp2_with fail
      refine Calls.mono HN1.out ?_
      rintro e wo ⟨rfl, hwo⟩
      replace hwo := hwo.symm
      subst hwo
      go_wp2_with fail
      refine Calls.mono HN1.out ?_
      rintro e wo ⟨rfl, hwo⟩
      replace hwo := hwo.symm
      subst hwo
      clear HN1
      go_wp2_with fail
      go_ret
      exact ⟨rfl, HB1.out⟩
end Go.Proofs.Ytjpdcahodmomgaa
