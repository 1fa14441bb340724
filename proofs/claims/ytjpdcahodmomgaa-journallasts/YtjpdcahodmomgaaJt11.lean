import Derived.Test.YtjpdcahodmomgaaJt10
namespace Go.Proofs.Ytjpdcahodmomgaa
open Go.RowKit Go.PlainAid
set_option linter.unusedVariables false
set_option linter.unusedSimpArgs false
/-- The law's state ahead of its i-th life. -/
structure LsI (L tb p s n0 i : Nat) (w : World) (mayv : Value) (perh : Bool) (mv : Value) (hi : List (Value × List UInt8)) (x : DV) (wr : World) : Prop where
  h : Held (dmE L p s x :: (taleE L tb p mv [] hi ++ [])) wr
  b : Below L w wr
  n : x.n = n0
  writes : x.writes ≤ 100 * i
  form : ∃ mo mn mc, mayv = .slice mo mn mc
  may : MayO L wr [] x (mustL [] hi) mayv perh
theorem los_nil {L : Nat} {w : World} {R : List (Ent L)} : LoS L w R [] := fun _ _ _ d hd => by cases hd
set_option maxRecDepth 100000 in
set_option maxHeartbeats 12800000 in
theorem lasts_law {z : Int} {v : Value} {ls : List Lf} (w : World) (hz : -9223372036854775808 ≤ z ∧ z ≤ 9223372036854775807) (hv : LivesV w v ls) (hok : ∀ l ∈ ls, l.Ok) (hN : ls.length ≤ 140737488351232) :
    Calls Try.prog 5 #[.int .i64 z, v] w fun e w' => e = .returned (.bool true) ∧ Below w.heap.size w w' := by
  obtain ⟨L, hLw⟩ : ∃ L, L = w.heap.size := ⟨_, rfl⟩
  have HLV : Hid (∀ W, Below L w W → LivesV W v ls) := fun W hW => hv.more (by rw [← hLw]; exact hW)
  obtain ⟨ao, c, hvv, _⟩ := hv
  obtain ⟨N, hNN⟩ : ∃ N, N = ls.length := ⟨_, rfl⟩
  rw [← hNN] at hvv hN
  have HOK : Hid (∀ l ∈ ls, l.Ok) := hok
  have HN : Hid (N = ls.length ∧ N ≤ 140737488351232 ∧ L = w.heap.size ∧ v = .slice ao N c) := ⟨hNN, hN, hLw, hvv⟩
  have HW0 : Hid (Calls Try.prog 10 #[.int .i64 z, .int .i64 60] w fun e w' => ∃ k : Nat, k < 60 ∧ e = .returned (.int .i64 (k : Int)) ∧ w' = w) := within_any z 60 w hz (by omega)
  subst hvv
  clear hok hNN hz
  rw [← hLw]
  clear hLw
  go_enter Try.func5, Try.ntmps5
  go_wp2_with fail
  refine Calls.mono HW0.out ?_
  rintro e wa ⟨S0, hS0, rfl, hwa⟩
  replace hwa := hwa.symm
  subst hwa
  clear HW0
  obtain ⟨n0, hn0⟩ : ∃ n0 : Nat, n0 = 1 + S0 := ⟨_, rfl⟩
  have hSi : (1 : Int) + (S0 : Int) = (n0 : Int) := by omega
  have HNB : Hid (1 ≤ n0 ∧ n0 ≤ 60) := ⟨by omega, by omega⟩
  have hn60 : n0 ≤ 60 := by omega
  have HNW : Hid _ := new_yes n0 w ⟨by omega, by omega⟩
  have ewr : IntKind.i64.wrap ((1 : Int) + (S0 : Int)) = (n0 : Int) := by rw [IntKind.wrap_i64]; omega
  clear hS0 hn0
  go_wp2_with fail
  try rw [hSi]
  refine Calls.mono HNW.out ?_
  rintro e w1 ⟨rfl, hd1, hb1⟩
  clear HNW hSi ewr
  have HA : Hid _ := able_yes w1
  have HD1 : Hid (DM L (w.heap.size + 1) w.heap.size (fresh n0) w1 ∧ Below L w w1) := by rw [Hid, HN.out.2.2.1]; exact ⟨hd1, hb1⟩
  obtain ⟨p, hp⟩ : ∃ p, p = w.heap.size + 1 := ⟨_, rfl⟩
  obtain ⟨s, hs⟩ : ∃ s, s = w.heap.size := ⟨_, rfl⟩
  rw [← hp, ← hs] at HD1
  rw [← hp]
  clear hd1 hb1 hp hs
  go_wp2_with fail
  refine Calls.mono HA.out ?_
  rintro e w2 ⟨rfl, hb2⟩
  clear HA
  have HD2 : Hid (DM L p s (fresh n0) w2 ∧ Below L w w2 ∧ L ≤ w2.heap.size) := by
    have h1 := HD1.out
    have hLL : L ≤ w1.heap.size := by rw [HN.out.2.2.1]; rw [HN.out.2.2.1] at h1; exact h1.2.size
    exact ⟨h1.1.more hb2, h1.2.trans (hb2.mono hLL), Nat.le_trans hLL hb2.size⟩
  clear hb2 HD1
  obtain ⟨tb, htb⟩ : ∃ tb, tb = w2.heap.size := ⟨_, rfl⟩
  obtain ⟨w3, hw3⟩ : ∃ w3, w3 = w2.alloc (.cells #[.pointer (some ⟨p, 0, none⟩), .slice none 0 0] 48) := ⟨_, rfl⟩
  have HS : Hid (LsI L tb p s n0 0 w (.slice none 0 0) false (.slice none 0 0) [] (fresh n0) w3) := by
    have hb3 : Below w2.heap.size w2 w3 := by rw [hw3]; exact (Below.refl _ _).alloc (Nat.le_refl _) _
    have h1 : Held [dmE L p s (fresh n0)] w2 := held_new w2 p s _ HD2.out.1
    have h2 : Held (boxE L tb #[.pointer (some ⟨p, 0, none⟩), .slice none 0 0] 48 :: [dmE L p s (fresh n0)]) w3 := Held.fresh h1 hb3 ⟨by rw [hw3, htb]; exact heap_alloc_new w2 _, by rw [htb]; exact HD2.out.2.2⟩ (fun k hk => by have : k = tb := hk; omega)
    have h3 : Held (tailE L 38 (.slice none 0 0) 0 [] :: boxE L tb #[.pointer (some ⟨p, 0, none⟩), .slice none 0 0] 48 :: [dmE L p s (fresh n0)]) w3 := h2.add (tail_nil _ _ _) (fun k hk => by cases hk)
    have h4 : Held (dmE L p s (fresh n0) :: (taleE L tb p (.slice none 0 0) [] [] ++ [])) w3 := h3.perm (by
      refine (List.Perm.swap ..).trans ?_
      exact (List.perm_append_comm (l₁ := [boxE L tb #[.pointer (some ⟨p, 0, none⟩), .slice none 0 0] 48, tailE L 38 (.slice none 0 0) 0 []]) (l₂ := [dmE L p s (fresh n0)])))
    exact ⟨h4, HD2.out.2.1.trans (hb3.mono HD2.out.2.2), rfl, Nat.zero_le _, ⟨_, _, _, rfl⟩, Or.inl (inv_zero n0)⟩
  clear HD2
  go_upto_region 5 with fail
  rw [← hw3, ← htb]
  clear hw3 htb
  go_wp2_with fail
  go_loopw [8, 9, 10] (fun s8 s9 s10 wr => ∃ i : Nat, i ≤ N ∧ s10 = .int .i64 (i : Int) ∧ ∃ perh mv hi x, s9 = .bool perh ∧ LsI L tb p s n0 i w s8 perh mv hi x wr) (fun _ _ s10 _ => N - (intOf s10).toNat)
  case atStart => exact ⟨0, Nat.zero_le _, rfl, _, _, _, _, rfl, HS.out⟩
  case round =>
    clear HS
    obtain ⟨i, hi0, rfl, perh, mv, hi, x, rfl, hI⟩ := hrel
    obtain ⟨mo, mn, mc, hmf⟩ := hI.form
    subst hmf
    have HOP : Hid _ := opened_any perh wr hI.h los_nil (by rw [hI.n]; exact hn60) hI.may
    have HI : Hid (LsI L tb p s n0 i w (.slice mo mn mc) perh mv hi x wr) := hI
    clear hI
    by_cases hlt : i < N
    · have hlti : (i : Int) < (N : Int) := by omega
      go_wp2_with fail
      refine Calls.mono HOP.out ?_
      rintro e w4 ⟨jb, y, mv4, hi4, rfl, hO⟩
      clear HOP
      have hbw : Below L w w4 := HI.out.b.trans hO.b
      obtain ⟨l, hl⟩ : ∃ l, ls[i]? = some l := ⟨_, List.getElem?_eq_getElem (by have := HN.out.1; omega)⟩
      obtain ⟨ao', c', hv', hrow⟩ := HLV.out w4 hbw
      obtain ⟨⟨b, off, hao, k0, k1, k2, k3⟩, hrv⟩ := hrow i l hl
      have hv1 := (Value.slice.inj hv').1
      rw [← hv1] at hao
      clear hv' hv1 hrow
      have hix := fun (W : World) => idx_run 45 51 4 Try.underlying45 (by kernel_rfl) W b off N c i hlt
      have HOK1 : Hid l.Ok := HOK.out l (List.mem_of_getElem? hl)
      have HRV : Hid (∀ W, Below L w4 W → RowsV W l.rv l.ds) := fun W hW => by
        obtain ⟨_, _, _, hrow⟩ := HLV.out W (hbw.trans hW)
        exact (hrow i l hl).2
      have HO : Hid (OpO L tb p s x [] [] wr jb y mv4 hi4 w4) := hO
      clear hl hrv hbw hO
      subst hao
      obtain ⟨rv, ds, af, tn, idle⟩ := l
      cases hid : idle with
      | true =>
        rw [hid] at k3
        have HNX : Hid (LsI L tb p s n0 (i + 1) w (.slice none 0 0) false mv4 hi4 x.on w4) := ⟨HO.out.left, HI.out.b.trans HO.out.b, HI.out.n, by have := HI.out.writes; show x.writes ≤ _; omega, ⟨_, _, _, rfl⟩, Or.inl HO.out.inv⟩
        go_wp2_with fail
        go_roundw
        case rel => exact ⟨i + 1, by omega, by go_num, _, _, _, _, rfl, HNX.out⟩
        case measure => simp [intOf]; omega
      | false =>
        rw [hid] at k3 HOK1 HRV
        have HLF : Hid _ := life_any (R := []) (af := af) tn false w4 HO.out.h HO.out.p HO.out.fin HO.out.recs HO.out.next HO.out.inv (by show x.n ≤ 60; rw [HI.out.n]; exact hn60) rfl (by show x.writes ≤ _; have := HI.out.writes; omega) HOK1.out.1 (fun W hW _ => HRV.out W hW) HOK1.out.2.2 HOK1.out.2.1
        unfold lifeC at HLF
        go_wp2_with fail
        refine Calls.mono HLF.out ?_
        rintro e w5 ⟨pv, perh5, mv5, hi5, x5, rfl, hL5⟩
        clear HLF
        have HNX : Hid (LsI L tb p s n0 (i + 1) w pv perh5 mv5 hi5 x5 w5) := by
          refine ⟨hL5.h, (HI.out.b.trans HO.out.b).trans hL5.b, hL5.n.trans HI.out.n, ?_, hL5.form (fun d hd => (HRV.out w4 (Below.refl _ _)).by hd), hL5.may (fun d hd W hW _ => (HRV.out W hW).by hd)⟩
          have h1 := hL5.writes
          have h2 := HI.out.writes
          have h3 : x5.writes ≤ x.writes + 100 := h1
          omega
        clear hL5
        go_wp2_with fail
        go_roundw
        case rel => exact ⟨i + 1, by omega, by go_num, _, _, _, _, rfl, HNX.out⟩
        case measure => simp [intOf]; omega
    · have hiN : i = N := by omega
      have hltn : ¬ (i : Int) < (N : Int) := by omega
      go_wp2_with fail
      refine Calls.mono HOP.out ?_
      rintro e w4 ⟨jb, y, mv4, hi4, rfl, hO⟩
      clear HOP
      have HO2 : Hid _ := opened_any (mo := none) (mn := 0) (mc := 0) false w4 hO.left los_nil (by show x.n ≤ 60; rw [HI.out.n]; exact hn60) (Or.inl hO.inv)
      have HB4 : Hid (Below L w w4) := HI.out.b.trans hO.b
      clear hO
      go_wp2_with fail
      refine Calls.mono HO2.out ?_
      rintro e w5 ⟨jb5, y5, mv5, hi5, rfl, hO5⟩
      clear HO2
      have HB5 : Hid (Below L w w5) := HB4.out.trans hO5.b
      clear hO5
      go_wp2_with fail
      go_ret
      exact ⟨rfl, HB5.out⟩
end Go.Proofs.Ytjpdcahodmomgaa
