import Derived.Test.YtnphkmdanicemaaGreatDoorZ10
import Derived.Test.YtnphkmdanicemaaGreatDoorZ11
namespace Go.Proofs.YtnphkmdanicemaaGreatDoor
open Go.RowKit Go.PlainAid
set_option linter.unusedVariables false
set_option linter.unusedSimpArgs false
theorem known_at (V : List Ent) (N j : Nat) (hj : j < N) : at0 ((knownL K1 V N).map (·.1)) j = (lookD (j : Int) K1 V).d := by
  rw [at0_lt (by simp [knownL]; exact hj)]
  simp [knownL]
/-- Whom one asks who has heard of the first replica alone. -/
theorem whom_first {w N : Nat} {V : List Ent} {x : Ent} {d : Int} (hw1 : 1 ≤ w) (hwN : w < N) (hx : look 0 K1 V = some x) (hn : ∀ r, r ≠ 0 → look r K1 V = none) (hd : 0 < d) (h0 : 0 ≤ x.d) :
    whomI (w : Int) (knownL K1 V N) N d 0 = if 0 < x.d then 0 else -1 := by
  have hl : ((knownL K1 V N).map (·.1)).length = N := by simp [knownL]
  have hk0 : (lookD ((0 : Nat) : Int) K1 V).d = x.d := by
    show (lookD 0 K1 V).d = x.d
    unfold lookD
    rw [hx]
    rfl
  have hkj : ∀ j : Nat, j ≠ 0 → (lookD (j : Int) K1 V).d = 0 := fun j hj => by
    unfold lookD
    rw [hn (j : Int) (by omega)]
    rfl
  have key : (askTo (w : Int) ((knownL K1 V N).map (·.1)) N).1 = if 0 < x.d then 0 else -1 := by
    rcases ask_is (w : Int) ((knownL K1 V N).map (·.1)) N (by omega) with ⟨e, hh⟩ | ⟨p, hp, e, hpm, hp0, _⟩
    · obtain ⟨k, hk, hkk⟩ := place_all (w : Int) N 0 (by omega)
      have h9 := hh k hk
      rw [hl, hkk] at h9
      have h8 := h9 (by omega)
      rw [known_at V N 0 (by omega), hk0] at h8
      rw [e, if_neg (by omega)]
    · rw [hl] at hp
      rw [known_at V N p hp] at hp0
      have hp00 : p = 0 := by
        by_cases h : p = 0
        · exact h
        · rw [hkj p h] at hp0; omega
      subst hp00
      rw [hk0] at hp0
      rw [e, if_pos hp0]
      rfl
  unfold whomI askD
  rw [if_pos hd, key]
  rw [if_neg (by omega)]
def bnd : Nat → Int
  | 0 => 900
  | i + 1 => bnd i / 2
theorem bnd12 : bnd 12 = 0 := by decide
theorem bnd_nn : ∀ i, 0 ≤ bnd i
  | 0 => by show (0 : Int) ≤ 900; decide
  | i + 1 => by have := bnd_nn i; show 0 ≤ bnd i / 2; omega
/-- Where the first replica and the one that needs stand. -/
structure Srv (N w : Nat) (need down : Int) (i : Nat) (ps : List Pl) (p0 pw : Pl) : Prop where
  good : Good N down 0 i ps
  a0 : ps[0]? = some p0
  aw : ps[w]? = some pw
  sum : p0.s.d + pw.s.d = down
  le : pw.s.d ≤ need
  bd : pw.s.d = need ∨ p0.s.d ≤ bnd i
  lk0 : look 0 K1 pw.V = look 0 K1 p0.V
  lkr : ∀ r, r ≠ 0 → look r K1 pw.V = none
  lk : Go.Proofs.YtnphkmdanicemaaGreatDoor.lk K1 pw.L = (0, 0) ∨ Go.Proofs.YtnphkmdanicemaaGreatDoor.lk K1 pw.L = (need, 0)
theorem Good.u0 {N t : Nat} {dn : Int} {ps : List Pl} (h : Good N dn 0 t ps) {i : Nat} {p : Pl} (hp : ps[i]? = some p) : p.s.u = 0 := by
  have h1 := sum_one (fun p : Pl => p.s.u) ps i p h.nd.2 hp
  have h2 := (h.ld i p hp).le.2.1
  rw [h.su] at h1
  omega
theorem giveI_is {h w : Int} (hh : 0 < h) (hw : 0 < w) : giveI h w = min w (Int.tdiv (h + 1) 2) := by
  unfold giveI
  rw [if_neg (by omega)]
  rw [Int.tdiv_eq_ediv_of_nonneg (by omega)]
  congr 1
  omega
/-- Behind the first replica's digest and the call's need. -/
structure Srv2 (N w : Nat) (need down left has : Int) (i : Nat) (ps : List Pl) (p0 pw : Pl) (x : Ent) : Prop where
  good : Good N down 0 (i + 1) ps
  a0 : ps[0]? = some p0
  aw : ps[w]? = some pw
  dl : p0.s.d = left
  dh : pw.s.d = has
  x0 : look 0 K1 pw.V = some x
  x1 : look 0 K1 p0.V = some x
  xd : x.d = left
  lkr : ∀ r, r ≠ 0 → look r K1 pw.V = none
  lk : Go.Proofs.YtnphkmdanicemaaGreatDoor.lk K1 pw.L = (need, 0)
theorem Srv.told {N w i : Nat} {need down : Int} {ps : List Pl} {p0 pw : Pl} {x : Ent} (h : Srv N w need down i ps p0 pw) (hd : down ≤ 1000) (hw1 : 1 ≤ w) (hwN : w < N) (hnd : 0 ≤ need ∧ need ≤ 1000)
    (hx : look ((0 : Nat) : Int) K1 (tellNext ((0 : Nat) : Int) p0.V (E0 (0 : Nat) p0.s.d p0.s.u)) = some x) :
    ∃ pw1, (tookL (N : Int) 0 x N (ps.set 0 { p0 with V := tellNext ((0 : Nat) : Int) p0.V (E0 (0 : Nat) p0.s.d p0.s.u) }))[w]? = some pw1 ∧ pw1.gb = pw.gb ∧
      Srv2 N w need down p0.s.d pw.s.d i ((tookL (N : Int) 0 x N (ps.set 0 { p0 with V := tellNext ((0 : Nat) : Int) p0.V (E0 (0 : Nat) p0.s.d p0.s.u) })).set w { pw1 with L := needN K1 need 0 pw1.L }) { p0 with V := tellNext ((0 : Nat) : Int) p0.V (E0 (0 : Nat) p0.s.d p0.s.u) } { pw1 with L := needN K1 need 0 pw1.L } x := by
  have hl := (h.good.ld 0 p0 h.a0).le
  obtain ⟨q1, q2, q3, x', q4, q5, q6, q7⟩ := (h.good.vw 0 p0 h.a0).tell hl.1 hl.2.1 hl.2.2
  have hxx : x' = x := Option.some.inj (q4.symm.trans hx)
  subst hxx
  have hg := h.good.spread h.a0 (by omega) hx
  have hk := look_key hx
  have hlen : ps.length = N := h.good.len
  have hw9 : (ps.set 0 { p0 with V := tellNext ((0 : Nat) : Int) p0.V (E0 (0 : Nat) p0.s.d p0.s.u) })[w]? = some pw := by rw [List.getElem?_set, if_neg (by omega)]; exact h.aw
  have h09 : (ps.set 0 { p0 with V := tellNext ((0 : Nat) : Int) p0.V (E0 (0 : Nat) p0.s.d p0.s.u) })[0]? = some { p0 with V := tellNext ((0 : Nat) : Int) p0.V (E0 (0 : Nat) p0.s.d p0.s.u) } := by rw [List.getElem?_set, if_pos rfl, if_pos (by omega)]
  have htw : (tookL (N : Int) 0 x' N (ps.set 0 { p0 with V := tellNext ((0 : Nat) : Int) p0.V (E0 (0 : Nat) p0.s.d p0.s.u) }))[w]? = some (pw.took (N : Int) (w : Int) ((0 : Nat) : Int) x') := by
    rw [tookL_at, hw9]
    simp only [Option.map_some]
    rw [if_pos ⟨hwN, by omega⟩]
  have ht0 : (tookL (N : Int) 0 x' N (ps.set 0 { p0 with V := tellNext ((0 : Nat) : Int) p0.V (E0 (0 : Nat) p0.s.d p0.s.u) }))[0]? = some { p0 with V := tellNext ((0 : Nat) : Int) p0.V (E0 (0 : Nat) p0.s.d p0.s.u) } := by
    rw [tookL_at, h09]
    simp
  obtain ⟨t1, t2, t3⟩ := (h.good.vw w pw h.aw).take (N := (N : Int)) (r := ((0 : Nat) : Int)) hk.2.2 (q2.nm x' hk.1).2 (by omega) (by omega) (by omega)
  have hxr : ({ x' with r := ((0 : Nat) : Int) } : Ent) = x' := by
    have := hk.2.1
    cases x'
    simp only at this
    subst this
    rfl
  have hnx : look 0 K1 (takeNext (w : Int) (N : Int) ((0 : Nat) : Int) pw.V [x']).1 = some x' := by
    have h9 := t3 0
    rw [hxr] at h9
    rw [h9]
    by_cases hv : (lookD ((0 : Nat) : Int) K1 pw.V).v < x'.v
    · rw [if_pos ⟨rfl, hv⟩]
    · rw [if_neg (fun hh => hv hh.2), h.lk0]
      rcases q7 with e | e
      · exact e
      · exfalso
        apply hv
        have : lookD ((0 : Nat) : Int) K1 pw.V = lookD ((0 : Nat) : Int) K1 p0.V := by
          show lookD 0 K1 pw.V = lookD 0 K1 p0.V
          unfold lookD
          rw [h.lk0]
        rw [this]
        exact e
  have hlw := h.good.lk w pw h.aw
  have hne := lkOk_need (a := need) (b := 0) hlw hnd ⟨by decide, by decide⟩
  have hln : Go.Proofs.YtnphkmdanicemaaGreatDoor.lk K1 (needN K1 need 0 pw.L) = (need, 0) := by
    rw [hne.2]
    rcases h.lk with e | e <;> rw [e] <;> simp only [Prod.mk.injEq] <;> omega
  refine ⟨_, htw, rfl, ?_⟩
  refine ⟨hg.set (p := pw.took (N : Int) (w : Int) ((0 : Nat) : Int) x') (p' := { (pw.took (N : Int) (w : Int) ((0 : Nat) : Int) x') with L := needN K1 need 0 pw.L }) htw hne.1 rfl (hg.vw w (pw.took (N : Int) (w : Int) ((0 : Nat) : Int) x') htw), ?_, ?_, rfl, rfl, hnx, hx, q5, fun r hr => ?_, hln⟩
  · rw [List.getElem?_set, if_neg (by omega)]; exact ht0
  · rw [List.getElem?_set, if_pos rfl, if_pos (by have := (List.getElem?_eq_some_iff.1 htw).1; omega)]
  · have h9 := t3 r
    rw [if_neg (fun hh => hr hh.1), h.lkr r hr] at h9
    exact h9
/-- What a tick comes to then. -/
theorem Srv2.ask {N w i : Nat} {need down left has : Int} {ps ps' : List Pl} {p0 pw : Pl} {x : Ent} {asked : Bool} (h : Srv2 N w need down left has i ps p0 pw x) (hd : down ≤ 1000) (hsum : left + has = down) (hle : has ≤ need) (hbd : has = need ∨ left ≤ bnd i) (hw1 : 1 ≤ w) (hwN : w < N) (hnd : 0 ≤ need ∧ need ≤ 1000)
    (ha : AskP N w ps pw (byd (Go.Proofs.YtnphkmdanicemaaGreatDoor.lk K1 pw.L).1 pw.s.d) (byd (Go.Proofs.YtnphkmdanicemaaGreatDoor.lk K1 pw.L).2 pw.s.u) asked ps') :
    ∃ p0' pw', Srv N w need down (i + 1) ps' p0' pw' ∧ pw'.lb = pw.lb ∧ ((asked = true ∧ has < need ∧ 0 < left ∧ pw'.s.d = has + min (need - has) (Int.tdiv (left + 1) 2)) ∨ (asked = false ∧ ¬ (has < need ∧ 0 < left) ∧ pw'.s.d = has ∧ has = min need down)) := by
  have hu := h.good.u0 h.aw
  have hlo := (h.good.ld 0 p0 h.a0).le
  rw [h.dl] at hlo
  have hg := h.good.ask h.aw (by omega) (byd_nn _ _) (byd_nn _ _) ha
  have hhas := (h.good.ld w pw h.aw).le
  rw [h.dh] at hhas
  rw [h.lk, h.dh, hu] at ha
  have hd1 : byd need has = need - has := by unfold byd; omega
  have hu1 : byd 0 0 = 0 := by unfold byd; decide
  simp only [hd1, hu1] at ha
  have h0w : (0 : Nat) ≠ w := by omega
  rcases ha with ⟨rfl, L', rfl, hc⟩ | ⟨rfl, k, q, hki, hq, hdu, hwh, rfl⟩
  · have hno : ¬ (has < need ∧ 0 < left) := by
      rintro ⟨h1, h2⟩
      rcases hc with ⟨e, _, _⟩ | ⟨_, e, _⟩
      · omega
      · rw [whom_first hw1 hwN h.x0 h.lkr (by omega) (by rw [h.xd]; omega), if_pos (by rw [h.xd]; exact h2)] at e
        cases e
    have hset0 : (ps.set w { pw with L := L' })[0]? = some p0 := by rw [List.getElem?_set, if_neg (fun e => h0w e.symm)]; exact h.a0
    have hsetw : (ps.set w { pw with L := L' })[w]? = some { pw with L := L' } := by rw [List.getElem?_set, if_pos rfl, if_pos (List.getElem?_eq_some_iff.1 h.aw).1]
    refine ⟨p0, { pw with L := L' }, ⟨hg, hset0, hsetw, by show p0.s.d + pw.s.d = down; rw [h.dl, h.dh]; exact hsum, by show pw.s.d ≤ need; rw [h.dh]; exact hle, ?_, by show look 0 K1 pw.V = _; rw [h.x0, h.x1], h.lkr, ?_⟩, rfl, .inr ⟨rfl, hno, h.dh, by omega⟩⟩
    · show pw.s.d = need ∨ p0.s.d ≤ bnd (i + 1)
      rw [h.dh, h.dl]
      have := bnd_nn (i + 1)
      by_cases e : has = need
      · exact .inl e
      · exact .inr (by have : ¬ 0 < left := fun hh => hno ⟨by omega, hh⟩; omega)
    · show Go.Proofs.YtnphkmdanicemaaGreatDoor.lk K1 L' = (0, 0) ∨ Go.Proofs.YtnphkmdanicemaaGreatDoor.lk K1 L' = (need, 0)
      rcases hc with ⟨_, _, rfl⟩ | ⟨_, _, rfl⟩
      · exact .inl (lkOk_rm (h.good.lk w pw h.aw)).2
      · exact .inr h.lk
  · have hlt : has < need := by
      by_cases e : has < need
      · exact e
      · exact absurd ⟨by omega, rfl⟩ hdu
    have hwf := whom_first hw1 hwN h.x0 h.lkr (show 0 < need - has by omega) (by rw [h.xd]; omega)
    rw [hwh, h.xd] at hwf
    have hlp : 0 < left := by
      by_cases e : 0 < left
      · exact e
      · rw [if_neg e] at hwf; omega
    rw [if_pos hlp] at hwf
    have hk0 : k = 0 := by omega
    subst hk0
    have hq0 : q = p0 := Option.some.inj (hq.symm.trans h.a0)
    subst hq0
    have hr1 : giveI q.s.d (need - has) = min (need - has) (Int.tdiv (left + 1) 2) := by rw [h.dl]; exact giveI_is hlp (by omega)
    have hr2 : giveI q.s.u 0 = 0 := by unfold giveI; rw [if_pos (.inr (Int.le_refl _))]
    have h2 := h.good.two h0w h.a0 h.aw
    have ho := onext_is (d := need - has) (u := 0) (h.good.ld 0 q h.a0) (by omega) (Int.le_refl _)
    have hi := inext_is (d := need - has) (u := 0) (h.good.ld w pw h.aw) (h.good.ld 0 q h.a0) (by omega) (Int.le_refl _) (by omega)
    have hil : w < ps.length := (List.getElem?_eq_some_iff.1 h.aw).1
    refine ⟨{ q with s := q.s.onext (giveI q.s.d (need - has)) (giveI q.s.u 0) }, { pw with L := Gm.rmK K1 pw.L, s := pw.s.inext (giveI q.s.d (need - has)) (giveI q.s.u 0) }, ⟨hg, ?_, ?_, ?_, ?_, ?_, by show look 0 K1 pw.V = _; rw [h.x0, h.x1], h.lkr, .inl (lkOk_rm (h.good.lk w pw h.aw)).2⟩, rfl, .inl ⟨rfl, hlt, hlp, ?_⟩⟩
    · rw [List.getElem?_set, if_neg (fun e => h0w e.symm), List.getElem?_set, if_pos rfl, if_pos (by rw [List.length_set]; omega)]
    · rw [List.getElem?_set, if_pos rfl, if_pos (by simp only [List.length_set]; exact hil)]
    · show (q.s.onext _ _).d + (pw.s.inext _ _).d = down
      rw [ho.1, hi.1, h.dl, h.dh]; omega
    · show (pw.s.inext _ _).d ≤ need
      rw [hi.1, hr1, h.dh]; omega
    · show (pw.s.inext _ _).d = need ∨ (q.s.onext _ _).d ≤ bnd i / 2
      rw [hi.1, ho.1, hr1, h.dl, h.dh]
      rw [Int.tdiv_eq_ediv_of_nonneg (by omega)]
      by_cases e : need - has ≤ (left + 1) / 2
      · exact .inl (by omega)
      · exact .inr (by omega)
    · show (pw.s.inext _ _).d = _
      rw [hi.1, hr1, h.dh]
end Go.Proofs.YtnphkmdanicemaaGreatDoor
namespace Go.Proofs.YtnphkmdanicemaaGreatDoor
open Go.RowKit Go.PlainAid
set_option linter.unusedVariables false
set_option linter.unusedSimpArgs false
/-- What holds ahead of each round. -/
structure SvI (L0 N ab cap w : Nat) (need down : Int) (i : Nat) (wa wr : World) : Prop where
  ex : ∃ ps p0 pw, All L0 N ab cap ps wr ∧ Srv N w need down i ps p0 pw
  bel : Below L0 wa wr
theorem build37 (a : Int) (W : World) : (Instr.build 37 #[(0, .int .i64 a)]).run Tryz.prog W = .ok (.agg #[.int .i64 a, .int .i64 0]) W := by
  kernel_rfl
set_option maxRecDepth 100000 in
set_option maxHeartbeats 4000000 in
theorem serves_law {S : Led.Sens} {Ls : Nat} (n who dn nd : Int) (w : World) (hn : i64 n) (hwho : i64 who) (hdn : i64 dn) (hnd : i64 nd) (hS : Led.Sen S Ls w) (hLs : Ls ≤ w.heap.size) :
    Calls Tryz.prog 4 #[.int .i64 n, .int .i64 who, .int .i64 dn, .int .i64 nd] w fun e w' => e = .returned (.bool true) ∧ Below w.heap.size w w' := by
  obtain ⟨N, hN2, hN8, hwN⟩ := within_nat n 2 8 hn (by decide) (by decide)
  obtain ⟨D, hD0, hD5, hwD⟩ := within_nat dn 1 900 hdn (by decide) (by decide)
  obtain ⟨U, hU0, hU5, hwU⟩ := within_nat nd 1 1000 hnd (by decide) (by decide)
  obtain ⟨k, hk1, hkN', hwk⟩ := within_nat who 1 (N - 1) hwho (by omega) (by omega)
  have hkN : k < N := by omega
  have HWN : Hid _ := hwN
  have HWD : Hid _ := hwD
  have HWU : Hid _ := hwU
  have HWK : Hid _ := hwk
  have HAL : Hid _ := alive_yes w hS hLs
  have HNN : Hid (2 ≤ N ∧ N ≤ 8 ∧ 1 ≤ D ∧ D ≤ 900 ∧ 1 ≤ U ∧ U ≤ 1000 ∧ 1 ≤ k ∧ k < N) := ⟨hN2, hN8, hD0, hD5, hU0, hU5, hk1, hkN⟩
  have HS0 : Hid (Led.Sen S Ls w ∧ Ls ≤ w.heap.size) := ⟨hS, hLs⟩
  have hw1 : IntKind.i64.wrap ((N : Int) - 1) = ((N - 1 : Nat) : Int) := by rw [IntKind.wrap_i64]; omega
  clear hwN hwD hwU hwk hN2 hN8 hD0 hD5 hU0 hU5 hS hLs hn hwho hdn hnd hk1 hkN'
  go_enter Tryz.func4, Tryz.ntmps4
  go_wp2_with fail
  refine Calls.mono HAL.out ?_
  rintro e wa ⟨rfl, hba⟩
  have HBA : Hid (Below w.heap.size w wa) := hba
  clear hba HAL
  go_wp2_with fail
  refine Calls.mono (HWN.out wa) ?_
  rintro e w1 ⟨rfl, hw9⟩
  replace hw9 := hw9.symm
  subst hw9
  go_wp2_with fail
  refine Calls.mono (HWD.out wa) ?_
  rintro e w1 ⟨rfl, hw9⟩
  replace hw9 := hw9.symm
  subst hw9
  go_wp2_with fail
  refine Calls.mono (HWU.out wa) ?_
  rintro e w1 ⟨rfl, hw9⟩
  replace hw9 := hw9.symm
  subst hw9
  have HBG : Hid _ := begun_any (N := N) (D : Int) 0 wa HNN.out.1 HNN.out.2.1 (by omega) (by omega) (by have := HNN.out; omega) (HS0.out.1.below (HBA.out.mono HS0.out.2)) (Nat.le_trans HS0.out.2 HBA.out.size)
  clear HWN HWD HWU
  go_wp2_with fail
  refine Calls.mono HBG.out ?_
  rintro e wb ⟨ab, cap, ps0, rfl, ha0, hst0, hbb⟩
  obtain ⟨L0, hL0⟩ : ∃ L, L = wa.heap.size := ⟨_, rfl⟩
  have hL0w : w.heap.size ≤ L0 := by rw [hL0]; exact HBA.out.size
  have HR0 : Hid (SvI L0 N ab cap k (U : Int) (D : Int) 0 wa wb) := by
    rw [← hL0] at ha0 hbb
    have hg : Good N (D : Int) 0 0 ps0 := hst0.good ha0.len (by have := HNN.out; omega) (by omega) (by omega) (by have := HNN.out; omega)
    obtain ⟨p0, hp0⟩ : ∃ p, ps0[0]? = some p := ⟨_, List.getElem?_eq_getElem (by rw [hg.len]; have := HNN.out; omega)⟩
    obtain ⟨pw, hpw⟩ : ∃ p, ps0[k]? = some p := ⟨_, List.getElem?_eq_getElem (by rw [hg.len]; exact hkN)⟩
    have s0 := hst0 0 p0 hp0
    have sw := hst0 k pw hpw
    rw [if_pos rfl] at s0
    rw [if_neg (by have := HNN.out; omega)] at sw
    have d0 : p0.s.d = (D : Int) := by rw [s0.2.2]; rfl
    have dw : pw.s.d = 0 := by rw [sw.2.2]; rfl
    refine ⟨⟨ps0, p0, pw, ha0, hg, hp0, hpw, by rw [d0, dw]; omega, by rw [dw]; omega, .inr (by rw [d0]; show (D : Int) ≤ 900; have := HNN.out; omega), by rw [s0.2.1, sw.2.1], fun r hr => by rw [sw.2.1]; rfl, .inl (by rw [sw.1]; rfl)⟩, hbb⟩
  have HLW : Hid (w.heap.size ≤ L0 ∧ L0 = wa.heap.size ∧ Below w.heap.size w wa) := ⟨hL0w, hL0, HBA.out⟩
  have hnil := nil25 ab N cap wb
  clear ha0 hst0 hbb hL0w hL0 HBA HBG
  go_wp2_with fail
  refine Calls.mono (HWK.out wb) ?_
  rintro e w1 ⟨rfl, hw9⟩
  replace hw9 := hw9.symm
  subst hw9
  clear hnil HWK hw1
  go_wp2
  go_loopw [12] (fun s12 wr => ∃ (i : Nat), i ≤ 12 ∧ s12 = .int .i64 (i : Int) ∧ Hid (SvI L0 N ab cap k (U : Int) (D : Int) i wa wr)) (fun s12 _ => 12 - (intOf s12).toNat)
  case atStart => exact ⟨0, by decide, rfl, HR0⟩
  case round =>
    clear HR0
    obtain ⟨i, hi, rfl, HR⟩ := hrel
    obtain ⟨ps, p0, pw, ha, hs⟩ := HR.out.ex
    have HA : Hid (All L0 N ab cap ps wr) := ha
    have HSV : Hid (Srv N k (U : Int) (D : Int) i ps p0 pw) := hs
    have HBW : Hid (Below w.heap.size w wr) := HLW.out.2.2.trans (HR.out.bel.mono HLW.out.1)
    obtain ⟨left, hleft⟩ : ∃ x, x = p0.s.d := ⟨_, rfl⟩
    obtain ⟨has, hhas⟩ : ∃ x, x = pw.s.d := ⟨_, rfl⟩
    have hl0 := (hs.good.ld 0 p0 hs.a0).le
    have hlw := (hs.good.ld k pw hs.aw).le
    have hsum := hs.sum
    have hle := hs.le
    have hbd := hs.bd
    rw [← hleft] at hl0 hsum hbd
    rw [← hhas] at hlw hsum hle hbd
    have HNU : Hid (0 ≤ left ∧ left ≤ 1000 ∧ 0 ≤ has ∧ has ≤ 1000 ∧ left + has = (D : Int) ∧ has ≤ (U : Int) ∧ (has = (U : Int) ∨ left ≤ bnd i)) := ⟨hl0.1, by omega, hlw.1, by omega, hsum, hle, hbd⟩
    have HRI0 : Hid (∀ W, Blk W p0.lb p0.s.cs 82 → Calls Tryz.prog 11 #[.pointer (some ⟨p0.lb, 0, none⟩)] W fun r w' => r = .returned (.agg #[.int .i64 left, .int .i64 p0.s.u]) ∧ Below W.heap.size W w') := fun W a => by rw [hleft]; exact Led.rights_any W a
    have HRIW : Hid (∀ W, Blk W pw.lb pw.s.cs 82 → Calls Tryz.prog 11 #[.pointer (some ⟨pw.lb, 0, none⟩)] W fun r w' => r = .returned (.agg #[.int .i64 has, .int .i64 pw.s.u]) ∧ Below W.heap.size W w') := fun W a => by rw [hhas]; exact Led.rights_any W a
    have HLR : Hid (left = p0.s.d ∧ has = pw.s.d) := ⟨hleft, hhas⟩
    clear ha hs hleft hhas hl0 hlw hsum hle hbd
    by_cases hlt : i < 12
    · have hlt' : (i : Int) < 12 := by omega
      obtain ⟨c0, c1, c2⟩ := HA.out.cells HSV.out.a0
      simp only [Nat.zero_mul, Nat.zero_add] at c0 c1 c2
      clear c0 c2
      have hN0 : 0 < N := by have := HNN.out; omega
      go_wp2_with fail
      refine Calls.mono (HRI0.out wr (HA.out.pls.all 0 p0 HSV.out.a0).ld) ?_
      rintro e w2 ⟨rfl, hb2⟩
      have hf0 := fldR0 left p0.s.u w2
      have HA2 : Hid (All L0 N ab cap ps w2 ∧ Below L0 wa w2) := ⟨HA.out.more hb2, HR.out.bel.trans (hb2.mono (Nat.le_of_lt (Nat.lt_of_le_of_lt HA.out.ablt.1 HA.out.ablt.2)))⟩
      clear hb2 c1 HA HR HRI0
      obtain ⟨c0, c1, c2⟩ := HA2.out.1.cells HSV.out.aw
      clear c0 c2
      go_wp2_with fail
      refine Calls.mono (HRIW.out w2 (HA2.out.1.pls.all k pw HSV.out.aw).ld) ?_
      rintro e w3 ⟨rfl, hb3⟩
      have hf1 := fldR0 has pw.s.u w3
      have HA3 : Hid (All L0 N ab cap ps w3 ∧ Below L0 wa w3) := ⟨HA2.out.1.more hb3, HA2.out.2.trans (hb3.mono (Nat.le_of_lt (Nat.lt_of_le_of_lt HA2.out.1.ablt.1 HA2.out.1.ablt.2)))⟩
      have HSPR : Hid (Calls Tryz.prog 10 #[.slice (some ⟨ab, 0, none⟩) N cap, .int .i64 0] w3 fun e w' => e = .returned (.bool true) ∧ ∃ x, look ((0 : Nat) : Int) K1 (tellNext ((0 : Nat) : Int) p0.V (E0 (0 : Nat) p0.s.d p0.s.u)) = some x ∧ All L0 N ab cap (tookL (N : Int) 0 x N (ps.set 0 { p0 with V := tellNext ((0 : Nat) : Int) p0.V (E0 (0 : Nat) p0.s.d p0.s.u) })) w' ∧ Chg (ownL ps) w3 w') := by
        have hl := (HSV.out.good.ld 0 p0 HSV.out.a0).le
        exact spread_any (w0 := 0) (t := i) w3 HA3.out.1 HSV.out.a0 HSV.out.good.vw (by omega) hl.1 hl.2.1 hl.2.2 HNN.out.1 HNN.out.2.1
      clear hb3 c1 hf0 HA2 HRIW
      go_wp2_with fail
      refine Calls.mono HSPR.out ?_
      rintro e w4 ⟨rfl, x, hx, ha4, hc4⟩
      obtain ⟨pw1, htw, hgb9, hs2⟩ := HSV.out.told (by have := HNN.out; omega) HNN.out.2.2.2.2.2.2.1 hkN (by have := HNN.out; omega) hx
      obtain ⟨ps1, hps1⟩ : ∃ q, q = tookL (N : Int) 0 x N (ps.set 0 { p0 with V := tellNext ((0 : Nat) : Int) p0.V (E0 (0 : Nat) p0.s.d p0.s.u) }) := ⟨_, rfl⟩
      obtain ⟨p01, hp01⟩ : ∃ q, q = ({ p0 with V := tellNext ((0 : Nat) : Int) p0.V (E0 (0 : Nat) p0.s.d p0.s.u) } : Pl) := ⟨_, rfl⟩
      rw [← hps1] at ha4 htw hs2
      rw [← hp01] at hs2
      rw [← HLR.out.1, ← HLR.out.2] at hs2
      have HTW : Hid (ps1[k]? = some pw1) := htw
      obtain ⟨ps2, hps2⟩ : ∃ q, q = ps1.set k { pw1 with L := needN K1 (U : Int) 0 pw1.L } := ⟨_, rfl⟩
      obtain ⟨pw2, hpw2⟩ : ∃ q, q = ({ pw1 with L := needN K1 (U : Int) 0 pw1.L } : Pl) := ⟨_, rfl⟩
      rw [← hps2, ← hpw2] at hs2
      have HPS2 : Hid (ps2 = ps1.set k { pw1 with L := needN K1 (U : Int) 0 pw1.L }) := hps2
      have HS2 : Hid (Srv2 N k (U : Int) (D : Int) left has i ps2 p01 pw2 x) := hs2
      have HA4 : Hid (All L0 N ab cap ps1 w4 ∧ Below L0 wa w4) := ⟨ha4, HA3.out.2.trans (HA3.out.1.below hc4)⟩
      clear hgb9 hx ha4 hc4 htw hs2 hps1 hp01 hps2 hpw2 hf1 HA3 HSPR HLR HSV
      obtain ⟨c0, c1, c2⟩ := HA4.out.1.cells HTW.out
      have hgs4 := (HA4.out.1.pls.all k pw1 HTW.out).gs
      have HND : Hid (Calls Tryz.prog 8 #[.pointer (some ⟨pw1.gb, 0, none⟩), .string ⟨#[107]⟩, .agg #[.int .i64 (U : Int), .int .i64 0]] w4 fun e w' => e = .returned (.tuple #[]) ∧ Gs pw1.gb pw1.mb (k : Int) N (needN K1 (U : Int) 0 pw1.L) w' ∧ Chg (fun b => b = pw1.mb) w4 w') := need_any K1 (U : Int) 0 w4 hgs4 (show K1.length ≤ 281474976710656 from by decide)
      clear hgs4
      have hbd := build37 (U : Int) w4
      clear c1 c2
      go_wp2_with fail
      refine Calls.mono HND.out ?_
      rintro e w5 ⟨rfl, hg5, hc5⟩
      have HA5 : Hid (All L0 N ab cap ps2 w5 ∧ Below L0 wa w5) := by
        refine ⟨by rw [HPS2.out]; exact HA4.out.1.setL HTW.out hg5 hc5, HA4.out.2.trans (HA4.out.1.below (hc5.mono (B := ownL ps1) fun _ _ e => ⟨k, pw1, HTW.out, .inr (.inl e)⟩))⟩
      have HAS : Hid _ := asks_any w5 HA5.out.1 HS2.out.good HS2.out.aw (by have := HNN.out; omega) HNN.out.1 HNN.out.2.1 (HS0.out.1.below ((HLW.out.2.2.trans (HA5.out.2.mono HLW.out.1)).mono HS0.out.2)) (Nat.le_trans HS0.out.2 HLW.out.1) (Nat.le_of_lt (Nat.lt_of_le_of_lt HA5.out.1.ablt.1 HA5.out.1.ablt.2))
      clear hg5 hc5 c0 hbd HPS2 HA4 HND HTW
      go_wp2_with fail
      refine Calls.mono HAS.out ?_
      rintro e w6 ⟨asked, ps3, rfl, ha6, hc6, hap⟩
      obtain ⟨p03, pw3, hsv3, hlb9, hcs⟩ := HS2.out.ask (by have := HNN.out; omega) HNU.out.2.2.2.2.1 HNU.out.2.2.2.2.2.1 HNU.out.2.2.2.2.2.2 HNN.out.2.2.2.2.2.2.1 hkN (by have := HNN.out; omega) hap
      have HA6 : Hid (All L0 N ab cap ps3 w6 ∧ Below L0 wa w6) := ⟨ha6, HA5.out.2.trans (HA5.out.1.below hc6)⟩
      have HS3 : Hid (Srv N k (U : Int) (D : Int) (i + 1) ps3 p03 pw3) := hsv3
      clear hlb9 ha6 hc6 hap hsv3 HA5 HAS HS2
      rcases hcs with ⟨rfl, q1, q2, q3⟩ | ⟨rfl, q1, q2, q3⟩
      · obtain ⟨g1, hg1⟩ : ∃ g, g = min ((U : Int) - has) (Int.tdiv (left + 1) 2) := ⟨_, rfl⟩
        have hg9 : 0 ≤ g1 ∧ g1 ≤ 1000 := by
          rw [hg1, Int.tdiv_eq_ediv_of_nonneg (by omega)]
          have := HNU.out; have := HNN.out
          omega
        have hgd : -9223372036854775808 ≤ Int.tdiv (left + 1) 2 ∧ Int.tdiv (left + 1) 2 ≤ 9223372036854775807 := by
          rw [Int.tdiv_eq_ediv_of_nonneg (by omega)]
          have := HNU.out
          omega
        have v1 : IntKind.i64.wrap ((U : Int) - has) = (U : Int) - has := by rw [IntKind.wrap_i64]; have := HNU.out; have := HNN.out; omega
        have v2 : IntKind.i64.wrap (left + 1) = left + 1 := by rw [IntKind.wrap_i64]; have := HNU.out; omega
        have v3 : IntKind.i64.wrap (Int.tdiv (left + 1) 2) = Int.tdiv (left + 1) 2 := by rw [IntKind.wrap_i64]; omega
        have v4 : IntKind.i64.wrap (has + min ((U : Int) - has) (Int.tdiv (left + 1) 2)) = has + min ((U : Int) - has) (Int.tdiv (left + 1) 2) := by rw [← hg1, IntKind.wrap_i64]; have := HNU.out; omega
        have HRI3 : Hid (∀ W, Blk W pw3.lb pw3.s.cs 82 → Calls Tryz.prog 11 #[.pointer (some ⟨pw3.lb, 0, none⟩)] W fun r w' => r = .returned (.agg #[.int .i64 (has + min ((U : Int) - has) (Int.tdiv (left + 1) 2)), .int .i64 pw3.s.u]) ∧ Below W.heap.size W w') := fun W a => by rw [← q3]; exact Led.rights_any W a
        obtain ⟨c0, c1, c2⟩ := HA6.out.1.cells HS3.out.aw
        clear c0 c2 q3 hg1 hg9 hgd
        go_wp2_with fail
        refine Calls.mono (HRI3.out w6 (HA6.out.1.pls.all k pw3 HS3.out.aw).ld) ?_
        rintro e w7 ⟨rfl, hb7⟩
        have hf7 := fldR0 (has + min ((U : Int) - has) (Int.tdiv (left + 1) 2)) pw3.s.u w7
        have HN7 : Hid (SvI L0 N ab cap k (U : Int) (D : Int) (i + 1) wa w7) := ⟨⟨ps3, p03, pw3, HA6.out.1.more hb7, HS3.out⟩, HA6.out.2.trans (hb7.mono (Nat.le_of_lt (Nat.lt_of_le_of_lt HA6.out.1.ablt.1 HA6.out.1.ablt.2)))⟩
        clear hb7 c1 HRI3 HA6 HS3
        go_wp2
        go_roundw
        case rel => exact ⟨i + 1, by omega, by go_num, HN7⟩
        case measure => simp [intOf]; omega
      · have HN7 : Hid (SvI L0 N ab cap k (U : Int) (D : Int) (i + 1) wa w6) := ⟨⟨ps3, p03, pw3, HA6.out.1, HS3.out⟩, HA6.out.2⟩
        have hmin : min (U : Int) (D : Int) = has := q3.symm
        clear q2 q3 HA6 HS3
        by_cases h1 : has < (U : Int)
        · have h2 : ¬ 0 < left := fun e => q1 ⟨h1, e⟩
          clear q1
          go_wp2
          go_roundw
          case rel => exact ⟨i + 1, by omega, by go_num, HN7⟩
          case measure => simp [intOf]; omega
        · clear q1
          go_wp2
          go_roundw
          case rel => exact ⟨i + 1, by omega, by go_num, HN7⟩
          case measure => simp [intOf]; omega
    · obtain rfl : i = 12 := by omega
      obtain ⟨c0, c1, c2⟩ := HA.out.cells HSV.out.aw
      have hmin : min (U : Int) (D : Int) = has := by
        have h9 := HNU.out
        rw [bnd12] at h9
        omega
      clear c0 c2 HRI0
      go_wp2_with fail
      refine Calls.mono (HRIW.out wr (HA.out.pls.all k pw HSV.out.aw).ld) ?_
      rintro e w2 ⟨rfl, hb2⟩
      have hf0 := fldR0 has pw.s.u w2
      have HFB : Hid (Below w.heap.size w w2) := HBW.out.trans (hb2.mono HBW.out.size)
      clear hb2
      go_wp2
      go_ret
      exact ⟨by first | rfl | simp, HFB.out⟩
end Go.Proofs.YtnphkmdanicemaaGreatDoor
