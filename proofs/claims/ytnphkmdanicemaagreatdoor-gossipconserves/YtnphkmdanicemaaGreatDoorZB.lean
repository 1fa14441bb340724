import Derived.Test.YtnphkmdanicemaaGreatDoorZA
namespace Go.Proofs.YtnphkmdanicemaaGreatDoor
open Go.RowKit Go.PlainAid
set_option linter.unusedVariables false
set_option linter.unusedSimpArgs false
theorem own_fromV {w : World} {base n : Nat} {v : Value} {es : List Ent} (h : w.ownsRow base 105 7 v n (flatV es)) :
    ∃ ao cap, v = .slice ao n cap ∧ n ≤ cap ∧ cap ≤ maxLen ∧ FromV w ao es ∧ (0 < es.length → ∃ g, ao = some ⟨g, 0, none⟩ ∧ base ≤ g ∧ g < w.heap.size) := by
  have hl := h.1
  rw [flatV_length] at hl
  obtain ⟨ao, cap, hv, h1, h2, h3⟩ := own_read h
  refine ⟨ao, cap, hv, h1, h2, ?_, fun h0 => ?_⟩
  · intro h0
    obtain ⟨g, hg, hb, hlt, hc⟩ := h3 (by omega)
    refine ⟨g, 0, hg, fun i e he => ?_⟩
    have key : ∀ j u, j < 7 → e.cs[j]? = some u → w.cell? ⟨g, 0 + i * 7 + j, none⟩ = some u := fun j u hj hu => by
      rw [Nat.zero_add]
      exact hc _ _ ((flatV_get es i j e he hj).trans hu)
    exact ⟨key 0 _ (by decide) rfl, key 1 _ (by decide) rfl, key 2 _ (by decide) rfl, key 3 _ (by decide) rfl, key 4 _ (by decide) rfl, key 5 _ (by decide) rfl, key 6 _ (by decide) rfl⟩
  · obtain ⟨g, hg, hb, hlt, _⟩ := h3 (by omega)
    exact ⟨g, hg, hb, hlt⟩
def Pl.took (N me r : Int) (x : Ent) (p : Pl) : Pl := { p with V := (takeNext me N r p.V [x]).1 }
/-- The places of which the first i have taken a digest of one view. -/
def tookL (N : Int) (w0 : Nat) (x : Ent) (i : Nat) (ps : List Pl) : List Pl := ps.mapIdx fun j p => if j < i ∧ j ≠ w0 then p.took N (j : Int) (w0 : Int) x else p
theorem tookL_at (N : Int) (w0 : Nat) (x : Ent) (i : Nat) (ps : List Pl) (j : Nat) : (tookL N w0 x i ps)[j]? = (ps[j]?).map fun p => if j < i ∧ j ≠ w0 then p.took N (j : Int) (w0 : Int) x else p := by
  unfold tookL
  rw [List.getElem?_mapIdx]
theorem tookL_0 (N : Int) (w0 : Nat) (x : Ent) (ps : List Pl) : tookL N w0 x 0 ps = ps := by
  apply List.ext_getElem?
  intro j
  rw [tookL_at]
  cases ps[j]? with
  | none => rfl
  | some p => simp
theorem tookL_me (N : Int) (w0 : Nat) (x : Ent) (ps : List Pl) : tookL N w0 x (w0 + 1) ps = tookL N w0 x w0 ps := by
  apply List.ext_getElem?
  intro j
  rw [tookL_at, tookL_at]
  cases ps[j]? with
  | none => rfl
  | some p =>
    simp only [Option.map_some]
    by_cases h : j < w0
    · rw [if_pos ⟨by omega, by omega⟩, if_pos ⟨h, by omega⟩]
    · rw [if_neg (by omega), if_neg (by omega)]
theorem tookL_step (N : Int) (w0 : Nat) (x : Ent) (ps : List Pl) {i : Nat} {q : Pl} (hq : ps[i]? = some q) (hne : i ≠ w0) : tookL N w0 x (i + 1) ps = (tookL N w0 x i ps).set i (q.took N (i : Int) (w0 : Int) x) := by
  apply List.ext_getElem?
  intro j
  have hil : i < ps.length := (List.getElem?_eq_some_iff.1 hq).1
  rw [tookL_at, List.getElem?_set]
  by_cases e : i = j
  · subst e
    rw [if_pos rfl, if_pos (by unfold tookL; simpa using hil), hq]
    simp [hne]
  · rw [if_neg e, tookL_at]
    cases ps[j]? with
    | none => rfl
    | some p =>
      simp only [Option.map_some]
      by_cases h : j < i ∧ j ≠ w0
      · rw [if_pos ⟨by omega, h.2⟩, if_pos h]
      · rw [if_neg (by omega), if_neg h]
theorem tookL_now (N : Int) (w0 : Nat) (x : Ent) (ps : List Pl) {i : Nat} {q : Pl} (hq : ps[i]? = some q) : (tookL N w0 x i ps)[i]? = some q := by
  rw [tookL_at, hq]
  simp
theorem ownL_took (N : Int) (w0 : Nat) (x : Ent) (i : Nat) (ps : List Pl) {k : Nat} (h : ownL (tookL N w0 x i ps) k) : ownL ps k := by
  obtain ⟨j, p, hp, hk⟩ := h
  rw [tookL_at] at hp
  cases hq : ps[j]? with
  | none => rw [hq] at hp; cases hp
  | some q =>
    rw [hq] at hp
    simp only [Option.map_some, Option.some.injEq] at hp
    refine ⟨j, q, hq, ?_⟩
    subst hp
    split at hk
    · exact hk
    · exact hk
/-- What holds in the loop that carries a digest about. -/
structure SpL (L0 N ab cap w0 : Nat) (x : Ent) (ps qs : List Pl) (v : Value) (i : Nat) (w w' : World) : Prop where
  all : All L0 N ab cap (tookL (N : Int) w0 x i qs) w'
  chg : Chg (ownL ps) w w'
  row : w'.ownsRow w.heap.size 105 7 v 1 (flatV [x])
set_option maxRecDepth 100000 in
set_option maxHeartbeats 6400000 in
theorem spread_any {L0 N ab cap t w0 : Nat} {ps : List Pl} {p : Pl} (w : World) (h : All L0 N ab cap ps w) (hp : ps[w0]? = some p) (hok : ∀ (i : Nat) (q : Pl), ps[i]? = some q → VOk (i : Int) t q.V) (ht : t ≤ 50000) (hd : 0 ≤ p.s.d) (hu : 0 ≤ p.s.u) (hs : p.s.d + p.s.u ≤ 1000) (hN2 : 2 ≤ N) (hN8 : N ≤ 8) :
    Calls Tryz.prog 10 #[.slice (some ⟨ab, 0, none⟩) N cap, .int .i64 (w0 : Int)] w fun e w' => e = .returned (.bool true) ∧ ∃ x, look (w0 : Int) K1 (tellNext (w0 : Int) p.V (E0 w0 p.s.d p.s.u)) = some x ∧ All L0 N ab cap (tookL (N : Int) w0 x N (ps.set w0 { p with V := tellNext (w0 : Int) p.V (E0 w0 p.s.d p.s.u) })) w' ∧ Chg (ownL ps) w w' := by
  have hw0 : w0 < N := by rw [← h.len]; exact (List.getElem?_eq_some_iff.1 hp).1
  obtain ⟨q1, q2, q3, x, q4, q5, q6, q7⟩ := (hok w0 p hp).tell hd hu hs
  have HTL : Hid (∀ W, Vw p.hb p.vb w0 N p.V W → Calls Tryz.prog 24 #[.pointer (some ⟨p.hb, 0, none⟩), .string ⟨#[107]⟩, .int .i64 1000, .int .i64 0, .agg #[.int .i64 p.s.d, .int .i64 p.s.u], .int .i64 0] W fun q w' => q = .returned (.int .i64 0) ∧ Vw p.hb p.vb w0 N (tellNext (w0 : Int) p.V (E0 w0 p.s.d p.s.u)) w' ∧ Chg (fun k => k = p.vb) W w') := fun W hV => by
    have h0 := hok w0 p hp
    have := tell_own K1 1000 0 p.s.d p.s.u 0 W hV (by have := h0.len; omega) ⟨by show K1.length ≤ 140737488355328; decide, ⟨by show (-9223372036854775808 : Int) ≤ 1000; decide, by show (1000 : Int) ≤ 9223372036854775807; decide⟩, ⟨by show -9223372036854775808 ≤ p.s.d; omega, by show p.s.d ≤ 9223372036854775807; omega⟩, ⟨by show -9223372036854775808 ≤ p.s.u; omega, by show p.s.u ≤ 9223372036854775807; omega⟩⟩ (fun e he hr => ⟨(right_good (h0.nm e he).2).v, by have := h0.ov e he hr; omega⟩)
    have hE : (Ent.mk (w0 : Int) K1 1000 0 1 p.s.d p.s.u 0) = E0 w0 p.s.d p.s.u := rfl
    rw [hE, q1] at this
    exact this
  obtain ⟨V1, hV1⟩ : ∃ V1, V1 = tellNext (w0 : Int) p.V (E0 w0 p.s.d p.s.u) := ⟨_, rfl⟩
  rw [← hV1] at HTL q2 q3 q4 ⊢
  have HOK : Hid (∀ (i : Nat) (q : Pl), ps[i]? = some q → VOk (i : Int) t q.V) := hok
  have HX : Hid (VOk (w0 : Int) (t + 1) V1 ∧ look (w0 : Int) K1 V1 = some x ∧ x ∈ V1 ∧ x.n = K1 ∧ x.right = true ∧ ownV (w0 : Int) V1 = [x]) := by
    have hk := look_key q4
    exact ⟨q2, q4, hk.1, hk.2.2, (q2.nm x hk.1).2, q2.own_look q4⟩
  obtain ⟨c0, c1, c2⟩ := h.cells hp
  obtain ⟨X, hX⟩ : ∃ X, X = w.alloc (.cells #[.pointer (some ⟨p.gb, 0, none⟩), .pointer (some ⟨p.lb, 0, none⟩), .pointer (some ⟨p.hb, 0, none⟩)] 34) := ⟨_, rfl⟩
  obtain ⟨bx, hbx⟩ : ∃ bx, bx = w.heap.size := ⟨_, rfl⟩
  have hbX : Below w.heap.size w X := by rw [hX]; exact (Below.refl _ _).alloc (Nat.le_refl _) _
  have HWX : Hid (Below w.heap.size w X) := hbX
  have HBX : Hid (Blk X bx #[.pointer (some ⟨p.gb, 0, none⟩), .pointer (some ⟨p.lb, 0, none⟩), .pointer (some ⟨p.hb, 0, none⟩)] 34) := show Blk X bx #[.pointer (some ⟨p.gb, 0, none⟩), .pointer (some ⟨p.lb, 0, none⟩), .pointer (some ⟨p.hb, 0, none⟩)] 34 from by rw [hX, hbx]; exact heap_alloc_new w _
  have HA1 : Hid (All L0 N ab cap ps X) := h.more hbX
  have HXD : Hid (True ∧ Blk (({ X with drawn := X.drawn + 1 } : World)) p.lb p.s.cs 82) := ⟨trivial, (HA1.out.pls.all w0 p hp).ld⟩
  have HP : Hid (ps[w0]? = some p) := hp
  have HNN : Hid (2 ≤ N ∧ N ≤ 8 ∧ w0 < N ∧ t ≤ 50000) := ⟨hN2, hN8, hw0, ht⟩
  have HL : Hid (ps.length = N) := h.len
  have HA0 : Hid (All L0 N ab cap ps w) := h
  clear h hp hok ht hd hu hs q1 q2 q3 q4 q5 q6 q7 hbX hN2 hN8
  go_enter Tryz.func10, Tryz.ntmps10
  go_upto_region 2 with fail
  rw [← hX, ← hbx]
  clear hX hbx c0 c1 c2 hV1
  go_wp2_with fail
  rename_i K hK
  try rw [show ∀ a : Act, a.put none undef = a from fun _ => rfl]
  refine wp_region_mix (fun wq => Blk wq bx #[.pointer (some ⟨p.gb, 0, none⟩), .pointer (some ⟨p.lb, 0, none⟩), .pointer (some ⟨p.hb, 0, none⟩)] 34) (fun i => i == 4 || i == 5 || i == 99) 99 (by kernel_rfl) rfl (by kernel_rfl) (by kernel_rfl) (by kernel_rfl) ?_
  refine withFrP (N := 48) rfl ?_
  intro f0 F0 hff
  have ee5 : f0 5 = Value.pointer (some ⟨bx, 0, none⟩) := hff 5
  clear hff
  have HCC : (fun wq => Blk wq bx #[.pointer (some ⟨p.gb, 0, none⟩), .pointer (some ⟨p.lb, 0, none⟩), .pointer (some ⟨p.hb, 0, none⟩)] 34) (({ X with drawn := X.drawn + 1 } : World)) := HBX.out
  refine lyp F0 rfl HCC rfl (by omega) (wanted_none rfl) (v := Value.pointer (some ⟨bx, 2, none⟩)) (fun wr hwr => by simp only [execOp, (F0.eval 5 (by omega)).trans (show _ = Value.pointer (some ⟨bx, 0, none⟩) from by simp [upd, ee5])]; simp [go_sem]) fun F1 => ?_
  refine lyp F1 rfl HCC rfl (by omega) (wanted_none rfl) (v := Value.pointer (some ⟨p.hb, 0, none⟩)) (fun wr hwr => by simp only [execOp, (F1.eval 15 (by omega)).trans (show _ = Value.pointer (some ⟨bx, 2, none⟩) from by simp [upd, ee5])]; simp [go_sem, show wr.cell? ⟨bx, 2, none⟩ = some (.pointer (some ⟨p.hb, 0, none⟩)) from Blk.cell hwr 2]) fun F2 => ?_
  refine lyp F2 rfl HCC rfl (by omega) (wanted_none rfl) (v := Value.pointer (some ⟨bx, 1, none⟩)) (fun wr hwr => by simp only [execOp, (F2.eval 5 (by omega)).trans (show _ = Value.pointer (some ⟨bx, 0, none⟩) from by simp [upd, ee5])]; simp [go_sem]) fun F3 => ?_
  refine lyp F3 rfl HCC rfl (by omega) (wanted_none rfl) (v := Value.pointer (some ⟨p.lb, 0, none⟩)) (fun wr hwr => by simp only [execOp, (F3.eval 17 (by omega)).trans (show _ = Value.pointer (some ⟨bx, 1, none⟩) from by simp [upd, ee5])]; simp [go_sem, show wr.cell? ⟨bx, 1, none⟩ = some (.pointer (some ⟨p.lb, 0, none⟩)) from Blk.cell hwr 1]) fun F4 => ?_
  refine lcp F4 rfl HCC rfl (by omega) (wanted_none rfl) (g := 11) (args := #[Value.pointer (some ⟨p.lb, 0, none⟩)]) (by simp only [execOp, resolve, invoke, List.map_toArray, List.map_cons, List.map_nil, (F4.eval 18 (by omega)).trans (show _ = Value.pointer (some ⟨p.lb, 0, none⟩) from by simp [upd, ee5])]; simp [go_sem, Act.eval]) (Led.rights_any _ HXD.out.2) ?_
  rintro e9 w2 ⟨rfl, hb2⟩
  refine ⟨_, rfl, fun F5 => ?_⟩
  have hb2' : Below X.heap.size X w2 := (show Below X.heap.size X (({ X with drawn := X.drawn + 1 } : World)) from Below.drew (Below.refl _ _)).trans hb2
  have HC2 : (fun wq => Blk wq bx #[.pointer (some ⟨p.gb, 0, none⟩), .pointer (some ⟨p.lb, 0, none⟩), .pointer (some ⟨p.hb, 0, none⟩)] 34) w2 := HBX.out.below hb2' HBX.out.lt
  have HA2 : All L0 N ab cap ps w2 := HA1.out.more hb2'
  refine lcp F5 rfl HC2 rfl (by omega) (wanted_none rfl) (g := 24) (args := #[Value.pointer (some ⟨p.hb, 0, none⟩), Value.string ⟨#[107]⟩, Value.int .i64 1000, Value.int .i64 0, Value.agg #[.int .i64 p.s.d, .int .i64 p.s.u], Value.int .i64 0]) (by simp only [execOp, resolve, invoke, List.map_toArray, List.map_cons, List.map_nil, (F5.eval 16 (by omega)).trans (show _ = Value.pointer (some ⟨p.hb, 0, none⟩) from by simp [upd, ee5]), (F5.eval 19 (by omega)).trans (show _ = Value.agg #[.int .i64 p.s.d, .int .i64 p.s.u] from by simp [upd, ee5])]; simp [go_sem, Act.eval]) (HTL.out _ (HA2.pls.all w0 p HP.out).vw) ?_
  rintro e9 w3 ⟨rfl, hV3, hc3⟩
  refine ⟨_, rfl, fun F6 => ?_⟩
  have hne : bx ≠ p.vb := (HA2.pls.all w0 p HP.out).vw.map.ne_b HC2
  have HC3 : (fun wq => Blk wq bx #[.pointer (some ⟨p.gb, 0, none⟩), .pointer (some ⟨p.lb, 0, none⟩), .pointer (some ⟨p.hb, 0, none⟩)] 34) w3 := hc3.blk HC2 hne
  refine lyp F6 rfl HC3 rfl (by omega) (wanted_none rfl) (v := Value.int .i64 0) (fun wr hwr => by simp only [execOp, (F6.eval 20 (by omega)).trans (show _ = Value.int .i64 0 from by simp [upd, ee5])]; first | rfl | simp [go_sem]) fun F7 => ?_
  refine ⟨fun _ => HC3, ?_⟩
  refine hK _ _ ?_
  clear F0 F1 F2 F3 F4 F5 F6 F7 ee5 HCC
  simp only [Act.put, List.setIfInBounds_toArray, List.set_cons_succ, List.set_cons_zero]
  have HA3 : Hid (All L0 N ab cap (ps.set w0 { p with V := V1 }) w3) := HA2.setV HP.out hV3 hc3
  have HB3 : Hid (Blk w3 bx #[.pointer (some ⟨p.gb, 0, none⟩), .pointer (some ⟨p.lb, 0, none⟩), .pointer (some ⟨p.hb, 0, none⟩)] 34) := HC3
  have HW3 : Hid (Chg (ownL ps) w w3) := ((Chg.ofBelow (ownL ps) HWX.out).trans ((Chg.ofBelow (ownL ps) hb2').trans (hc3.mono (B := ownL ps) fun _ _ e => ⟨w0, p, HP.out, .inr (.inr (.inr (.inr e)))⟩) (fun _ _ e => e)) (fun _ _ e => e))
  have b2 : w3.cell? ⟨bx, 2, none⟩ = some (.pointer (some ⟨p.hb, 0, none⟩)) := HC3.cell 2
  have hq9 : (ps.set w0 { p with V := V1 })[w0]? = some { p with V := V1 } := by
    rw [List.getElem?_set, if_pos rfl, if_pos (by rw [HL.out]; exact hw0)]
  have HQ : Hid _ := hq9
  have HDG : Hid _ := digest_one w3 (HA3.out.pls.all w0 _ HQ.out).vw (by rw [HX.out.2.2.2.2.2]; exact Nat.le_refl _)
  clear hq9 HC3 HC2 hV3 hc3 hne hb2 hb2' HA2 HXD HA1 HBX HTL
  go_wp2_with fail
  refine Calls.mono HDG.out ?_
  rintro e w4 ⟨v, ds, rfl, hpm, hrow, hb4⟩
  have hds : ds = [x] := by
    have : ds.Perm [x] := by rw [← HX.out.2.2.2.2.2]; exact hpm
    exact List.perm_singleton.1 this
  subst hds
  have HSP : Hid (SpL L0 N ab cap w0 x ps (ps.set w0 { p with V := V1 }) v 0 w w4) := ⟨by rw [tookL_0]; exact HA3.out.more hb4, HW3.out.trans (Chg.ofBelow (ownL ps) hb4) (fun _ _ e => e), ownsRow_mono hrow HW3.out.size⟩
  obtain ⟨ao, cp, rfl, hcp⟩ := own_slice hrow
  clear hpm hrow hb4 HA3 HB3 HW3 b2 HDG
  go_wp2
  go_loopw [8] (fun s8 wr => ∃ (i : Nat), i ≤ N ∧ s8 = .int .i64 (i : Int) ∧ Hid (SpL L0 N ab cap w0 x ps (ps.set w0 { p with V := V1 }) (.slice ao 1 cp) i w wr)) (fun s8 _ => N - (intOf s8).toNat)
  case atStart => exact ⟨0, Nat.zero_le _, rfl, HSP⟩
  case round =>
    clear HSP
    obtain ⟨i, hi, rfl, HS⟩ := hrel
    by_cases hlt : i < N
    · have hlt' : (i : Int) < (N : Int) := by omega
      have hi8 : i ≤ 8 := by have := HNN.out.2.1; omega
      by_cases hiw : i = w0
      · subst hiw
        have HN : Hid (SpL L0 N ab cap i x ps (ps.set i { p with V := V1 }) (.slice ao 1 cp) (i + 1) w wr) := by
          refine ⟨?_, HS.out.chg, HS.out.row⟩
          have := HS.out.all
          rw [tookL_me]
          exact this
        clear HS
        go_wp2
        go_roundw
        case rel => exact ⟨i + 1, by omega, by go_num, HN⟩
        case measure => simp [intOf]; omega
      · have hiw' : ¬ (i : Int) = (w0 : Int) := by omega
        obtain ⟨q, hq0⟩ : ∃ q, (ps.set w0 { p with V := V1 })[i]? = some q := ⟨_, List.getElem?_eq_getElem (by rw [List.length_set, HL.out]; exact hlt)⟩
        have HQ0 : Hid ((ps.set w0 { p with V := V1 })[i]? = some q) := hq0
        have HQI : Hid ((tookL (N : Int) w0 x i (ps.set w0 { p with V := V1 }))[i]? = some q) := tookL_now _ _ _ _ hq0
        have hqp : ps[i]? = some q := by
          rcases set_some hq0 with ⟨e, _⟩ | ⟨_, e⟩
          · exact absurd e hiw
          · exact e
        have HTK := (HOK.out i q hqp).take (N := (N : Int)) (r := (w0 : Int)) HX.out.2.2.2.1 HX.out.2.2.2.2.1 (by omega) (by have := HNN.out.2.2.1; omega) (by omega)
        obtain ⟨d0, d1, d2⟩ := HS.out.all.cells HQI.out
        obtain ⟨ao2, cp2, hv2, hcp2, hcm2, hfv, hat⟩ := own_fromV HS.out.row
        cases hv2
        have hpl := HS.out.all.pls.all i q HQI.out
        have HCT : Hid _ := take_any (w0 : Int) ao 1 cp [x] wr hpl.vw (by have := (HOK.out i q hqp).len; have := HNN.out.2.2.2; omega) rfl (by decide) hfv (fun e he => by rw [List.mem_singleton.1 he]; exact HX.out.1.sane HX.out.2.2.1) (fun b off e => by
          obtain ⟨g, hg, _, hgl⟩ := hat (by simp)
          rw [hg] at e
          cases e
          obtain ⟨cur, hcur⟩ := ownsRow_type HS.out.row (by rw [hg]; rfl)
          exact hpl.vw.map.ne_b (show Blk wr _ cur 105 from hcur))
        rw [HTK.1] at HCT
        have hnw : ∀ k, k = q.vb → ¬ (Value.slice ao 1 cp).ownBlock = some k := fun k e hk => by
          obtain ⟨cur, hcur⟩ := ownsRow_type HS.out.row hk
          exact hpl.vw.map.ne_b (show Blk wr k cur 105 from hcur) e
        have HNW : Hid _ := hnw
        have HQP : Hid (ps[i]? = some q) := hqp
        clear hq0 hqp hcp2 hcm2 hfv hat hpl hnw HTK d0 d1
        go_wp2_with fail
        refine Calls.mono HCT.out ?_
        rintro e w5 ⟨rfl, hV5, hc5⟩
        have HN : Hid (SpL L0 N ab cap w0 x ps (ps.set w0 { p with V := V1 }) (.slice ao 1 cp) (i + 1) w w5) := by
          refine ⟨?_, HS.out.chg.trans (hc5.mono (B := ownL ps) fun _ _ e => ⟨i, q, HQP.out, .inr (.inr (.inr (.inr e)))⟩) (fun _ _ e => e), ownsRow_same HS.out.row fun g hg => hc5.block g (ownsRow_lt HS.out.row hg).2 (fun e => HNW.out g e hg)⟩
          rw [tookL_step _ _ _ _ HQ0.out hiw]
          exact HS.out.all.setV HQI.out hV5 hc5
        clear hV5 hc5 HS HCT HNW HQI HQ0 hiw d2
        go_wp2
        go_roundw
        case rel => exact ⟨i + 1, by omega, by go_num, HN⟩
        case measure => simp [intOf]; omega
    · obtain rfl : i = N := by omega
      go_wp2
      go_ret
      exact ⟨rfl, x, HX.out.2.1, HS.out.all, HS.out.chg⟩
end Go.Proofs.YtnphkmdanicemaaGreatDoor
namespace Go.Proofs.YtnphkmdanicemaaGreatDoor
open Go.RowKit Go.PlainAid
set_option linter.unusedVariables false
set_option linter.unusedSimpArgs false
theorem code_ok {i N : Nat} (h : i < N) (h2 : 2 ≤ N) (h8 : N ≤ 8) : newCode (i : Int) (N : Int) = 0 := by
  unfold newCode
  rw [if_neg (by omega), if_neg (by omega)]
/-- A ledger into which rights have come. -/
def sIn (dn up : Int) : Led.LS := Led.LS.mk dn up 0 1000 0
theorem in_code {dn up : Int} (h1 : 0 ≤ dn) (h2 : 0 ≤ up) (h3 : dn + up ≤ 1000) : s1000.icode dn up = 0 ∧ s1000.inext dn up = sIn dn up := by
  have hc : s1000.icode dn up = 0 := by
    unfold Led.LS.icode Led.LS.all s1000
    rw [if_neg (by omega), if_neg (by simp only; omega)]
  refine ⟨hc, ?_⟩
  unfold Led.LS.inext
  rw [if_pos hc]
  simp [s1000, sIn]
theorem s1000_ok : s1000.Ok := ⟨by decide, by decide, by decide, by decide, by decide, by decide⟩
def Start (dn up : Int) (ps : List Pl) : Prop := ∀ (i : Nat) (p : Pl), ps[i]? = some p → p.L = [] ∧ p.V = [] ∧ p.s = if i = 0 then sIn dn up else s1000
set_option maxRecDepth 100000 in
set_option maxHeartbeats 6400000 in
theorem begun_any {S : Led.Sens} {Ls N : Nat} (dn up : Int) (w : World) (hN : 2 ≤ N) (hN8 : N ≤ 8) (h1 : 0 ≤ dn) (h2 : 0 ≤ up) (h3 : dn + up ≤ 1000) (hS : Led.Sen S Ls w) (hL : Ls ≤ w.heap.size) :
    Calls Tryz.prog 7 #[.int .i64 (N : Int), .int .i64 dn, .int .i64 up] w fun e w' => ∃ ab cap ps, e = .returned (.slice (some ⟨ab, 0, none⟩) N cap) ∧ All w.heap.size N ab cap ps w' ∧ Start dn up ps ∧ Below w.heap.size w w' := by
  obtain ⟨L, hLL⟩ : ∃ L, L = w.heap.size := ⟨_, rfl⟩
  have HL : Hid (L = w.heap.size) := hLL
  rw [← hLL] at hL ⊢
  have HB0 : Hid (Beg L N 0 [] (.slice none 0 0) w w) := ⟨⟨fun i p hp => by simp at hp, fun i j p q _ hp => by simp at hp⟩, rfl, World.ownsRow_nil _ _ _ _, fun p hp => (by cases hp), Below.refl _ _⟩
  have HSS : Hid (Led.Sen S Ls w ∧ Ls ≤ L) := ⟨hS, hL⟩
  have HNN : Hid (2 ≤ N ∧ N ≤ 8) := ⟨hN, hN8⟩
  have HDU : Hid (0 ≤ dn ∧ 0 ≤ up ∧ dn + up ≤ 1000) := ⟨h1, h2, h3⟩
  clear hLL hS hL h1 h2 h3
  go_enter Tryz.func7, Tryz.ntmps7
  go_wp2
  go_loopw [7, 8] (fun v7 v8 wr => ∃ (i : Nat) (ps : List Pl), i ≤ N ∧ v8 = .int .i64 (i : Int) ∧ Hid (Beg L N i ps v7 w wr)) (fun _ v8 _ => N - (intOf v8).toNat)
  case atStart => exact ⟨0, [], Nat.zero_le _, rfl, HB0⟩
  case round =>
    clear HB0
    obtain ⟨i, ps, hi, rfl, HB⟩ := hrel
    have hLs : L ≤ wr.heap.size := by rw [HL.out]; exact HB.out.bel.size
    by_cases hlt : i < N
    · have hlt' : (i : Int) < (N : Int) := by omega
      have HC : Hid (newCode (i : Int) (N : Int) = 0) := code_ok hlt HNN.out.1 HNN.out.2
      go_wp2_with fail
      refine Calls.mono (gnew_any i N wr HC.out) ?_
      rintro e b ⟨rfl, hg, hb, hbs⟩
      have HG : Hid (Gs (wr.heap.size + 1) wr.heap.size i N [] b ∧ Below wr.heap.size wr b ∧ b.heap.size = wr.heap.size + 2) := ⟨hg, hb, hbs⟩
      clear hg hb hbs
      go_wp2_with fail
      refine Calls.mono (Led.new_any 1000 b (by decide)) ?_
      rintro e c ⟨rfl, hc⟩
      have HCC : Hid (c = b.alloc (.cells s1000.cs 82)) := hc
      clear hc
      go_wp2_with fail
      refine Calls.mono (new_any i N c HC.out) ?_
      rintro e d ⟨rfl, hd, hcd, hds⟩
      have HD : Hid (Vw (c.heap.size + 1) c.heap.size i N [] d ∧ Below c.heap.size c d) := ⟨hd, hcd⟩
      clear hd hcd hds
      obtain ⟨ao, cap, hv, hcap⟩ := own_slice HB.out.row
      have hrow : d.ownsRow L 34 3 u7 i (flatP ps) := by
        have h1 : Below wr.heap.size wr b := HG.out.2.1
        have h2 : Below b.heap.size b c := by rw [HCC.out]; exact (Below.refl _ _).alloc (Nat.le_refl _) _
        have h3 := HD.out.2
        have h4 : Below wr.heap.size wr d := (h1.trans (h2.mono h1.size)).trans (h3.mono (Nat.le_trans h1.size h2.size))
        exact ownsRow_same HB.out.row fun g hg => h4.block g (ownsRow_lt HB.out.row hg).2
      have HRW : Hid (d.ownsRow L 34 3 u7 i (flatP ps)) := hrow
      have HLD : Hid (L ≤ d.heap.size) := by
        have h1 : Below wr.heap.size wr b := HG.out.2.1
        have h2 : Below b.heap.size b c := by rw [HCC.out]; exact (Below.refl _ _).alloc (Nat.le_refl _) _
        exact Nat.le_trans hLs (Nat.le_trans h1.size (Nat.le_trans h2.size HD.out.2.size))
      have HLW : Hid (L ≤ wr.heap.size) := hLs
      have hi8 : i ≤ 8 := by have := HNN.out.2; omega
      clear hrow hLs hv hcap
      go_wp2_with (first | (at_builtin; go_must (refine wpList_appP rfl _ _ rfl L i _ ps rfl HRW.out ⟨wr.heap.size + 1, wr.heap.size, b.heap.size, c.heap.size + 1, c.heap.size, [], s1000, []⟩ rfl (by first | rfl | simp) (by omega) HLD.out ?_)))
      intro v' w5 ho hg5
      have HN : Hid (Beg L N (i + 1) (ps ++ [⟨wr.heap.size + 1, wr.heap.size, b.heap.size, c.heap.size + 1, c.heap.size, [], s1000, []⟩]) v' w w5) := HB.out.step HLW.out HG.out.1 HG.out.2.1 HG.out.2.2 HCC.out HD.out.1 HD.out.2 rfl ho hg5
      clear ho hg5 HB HG HCC HD HRW HLD HLW
      go_wp2
      go_roundw
      case rel => exact ⟨i + 1, _, by omega, by go_num, HN⟩
      case measure => simp [intOf]; omega
    · obtain rfl : i = N := by omega
      obtain ⟨ao, cap, rfl, hnc, hcm, hat⟩ := own_read HB.out.row
      obtain ⟨ab, rfl, hab1, hab2, _⟩ := hat (by have := HNN.out.1; omega)
      have HA : Hid (All L i ab cap ps wr) := ⟨HB.out.pls, HB.out.len, HB.out.row⟩
      obtain ⟨p, hp⟩ : ∃ p, ps[0]? = some p := ⟨_, List.getElem?_eq_getElem (by rw [HB.out.len]; have := HNN.out.1; omega)⟩
      obtain ⟨c0, c1, c2⟩ := HA.out.cells hp
      simp only [Nat.zero_mul, Nat.zero_add] at c0 c1 c2
      have hnw := HB.out.new p (List.mem_of_getElem? hp)
      have hld : Blk wr p.lb s1000.cs 82 := by have := (HA.out.pls.all 0 p hp).ld; rwa [hnw.2.1] at this
      have HIN : Hid _ := Led.in_any wr (HSS.out.1.below (HB.out.bel.mono HSS.out.2)) hld s1000_ok (Nat.le_trans HSS.out.2 ((HA.out.pls.all 0 p hp).lo _ (.inr (.inr (.inl rfl))))) dn up (by rw [IntKind.wrap_i64]; have := HDU.out; omega) (by rw [IntKind.wrap_i64]; have := HDU.out; omega)
      have HCD := in_code HDU.out.1 HDU.out.2.1 HDU.out.2.2
      rw [HCD.1, HCD.2] at HIN
      have HP : Hid (ps[0]? = some p) := hp
      have hi0 : 0 < i := by have := HNN.out.1; omega
      clear hnc hcm hat hab1 hab2 hnw hld HCD c0 c2 hp hLs
      go_wp2_with fail
      refine Calls.mono HIN.out ?_
      rintro e w4 ⟨rfl, hB4, hst⟩
      have HF : Hid (All L i ab cap (ps.set 0 { p with s := sIn dn up }) w4 ∧ Below L w w4) := by
        have hcg := Stq_chg hst
        refine ⟨HA.out.setS HP.out hB4 hcg, HB.out.bel.trans (hcg.below (by rw [HL.out]; exact HB.out.bel.size) fun k e => by rw [e]; exact (HA.out.pls.all 0 p HP.out).lo _ (.inr (.inr (.inl rfl))))⟩
      have HST : Hid (Start dn up (ps.set 0 { p with s := sIn dn up })) := by
        intro j q hq
        rcases set_some hq with ⟨rfl, rfl⟩ | ⟨hne, hq⟩
        · have := HB.out.new p (List.mem_of_getElem? HP.out)
          exact ⟨this.1, this.2.2, rfl⟩
        · have := HB.out.new q (List.mem_of_getElem? hq)
          rw [if_neg hne]
          exact ⟨this.1, this.2.2, this.2.1⟩
      clear hB4 hst HA HP HB HIN
      go_wp2
      go_ret
      exact ⟨_, _, _, rfl, HF.out.1, HST.out, HF.out.2⟩
end Go.Proofs.YtnphkmdanicemaaGreatDoor
namespace Go.Proofs.YtnphkmdanicemaaGreatDoor
open Go.RowKit Go.PlainAid
set_option linter.unusedVariables false
set_option linter.unusedSimpArgs false
/-- The places within a call that began at w0, beside the boxes it has made. -/
structure AS (L0 N ab cap : Nat) (os ps : List Pl) (bs : List (Nat × Array Value × TypeId)) (w0 w : World) : Prop where
  all : All L0 N ab cap ps w
  bx : ∀ b ∈ bs, Blk w b.1 b.2.1 b.2.2 ∧ (b.2.2 = 34 ∨ b.2.2 = 37)
  nb : ∀ b ∈ bs, w0.heap.size ≤ b.1
  chg : Chg (ownL os) w0 w
  sub : ∀ k, ownL ps k → ownL os k
section
variable {L0 N ab cap : Nat} {os ps : List Pl} {bs : List (Nat × Array Value × TypeId)} {w0 w w' : World}
theorem AS.start (h : All L0 N ab cap ps w) : AS L0 N ab cap ps ps [] w w := ⟨h, (fun _ h => by cases h), (fun _ h => by cases h), Chg.refl _ _, fun _ h => h⟩
theorem AS.more (h : AS L0 N ab cap os ps bs w0 w) (hb : Below w.heap.size w w') : AS L0 N ab cap os ps bs w0 w' :=
  ⟨h.all.more hb, fun b hb2 => ⟨(h.bx b hb2).1.below hb (h.bx b hb2).1.lt, (h.bx b hb2).2⟩, h.nb, h.chg.trans (Chg.ofBelow (ownL os) hb) (fun _ _ e => e), h.sub⟩
theorem AS.box (h : AS L0 N ab cap os ps bs w0 w) (C : Array Value) (T : TypeId) (hT : T = 34 ∨ T = 37) : AS L0 N ab cap os ps ((w.heap.size, C, T) :: bs) w0 (w.alloc (.cells C T)) := by
  have h2 := h.more ((Below.refl w.heap.size w).alloc (Nat.le_refl _) (.cells C T))
  refine ⟨h2.all, fun b hb => ?_, fun b hb => ?_, h2.chg, h2.sub⟩
  · rcases List.mem_cons.1 hb with rfl | hb
    · exact ⟨heap_alloc_new w _, hT⟩
    · exact h2.bx b hb
  · rcases List.mem_cons.1 hb with rfl | hb
    · exact h.chg.size
    · exact h.nb b hb
theorem AS.keep (h : AS L0 N ab cap os ps bs w0 w) {i : Nat} {p : Pl} (hp : ps[i]? = some p) {A : Nat → Prop} (hc : Chg A w w') (hA : ∀ k, A k → p.own k) {ps' : List Pl} (ha : All L0 N ab cap ps' w') (hs : ∀ k, ownL ps' k → ownL ps k) : AS L0 N ab cap os ps' bs w0 w' :=
  ⟨ha, fun b hb => ⟨hc.blk (h.bx b hb).1 (fun a => by
      have hq := h.all.pls.all i p hp
      rcases (h.bx b hb).2 with e | e
      · exact hq.notT (h.bx b hb).1 (by rw [e]; decide) (by rw [e]; decide) (by rw [e]; decide) (hA _ a)
      · exact hq.notT (h.bx b hb).1 (by rw [e]; decide) (by rw [e]; decide) (by rw [e]; decide) (hA _ a)), (h.bx b hb).2⟩, h.nb, h.chg.trans (hc.mono (B := ownL os) fun k _ a => h.sub k ⟨i, p, hp, hA k a⟩) (fun _ _ e => e), fun k hk => h.sub k (hs k hk)⟩
theorem AS.setL (h : AS L0 N ab cap os ps bs w0 w) {i : Nat} {p : Pl} (hp : ps[i]? = some p) {L' : GL} (hg : Gs p.gb p.mb i N L' w') (hc : Chg (fun b => b = p.mb) w w') : AS L0 N ab cap os (ps.set i { p with L := L' }) bs w0 w' :=
  h.keep hp hc (fun k e => .inr (.inl e)) (h.all.setL hp hg hc) (fun k hk => ownL_set (p' := { p with L := L' }) hp (fun _ e => e) hk)
theorem AS.setS (h : AS L0 N ab cap os ps bs w0 w) {i : Nat} {p : Pl} (hp : ps[i]? = some p) {s' : Led.LS} (hl : Blk w' p.lb s'.cs 82) (hc : Chg (fun b => b = p.lb) w w') : AS L0 N ab cap os (ps.set i { p with s := s' }) bs w0 w' :=
  h.keep hp hc (fun k e => .inr (.inr (.inl e))) (h.all.setS hp hl hc) (fun k hk => ownL_set (p' := { p with s := s' }) hp (fun _ e => e) hk)
end
end Go.Proofs.YtnphkmdanicemaaGreatDoor
