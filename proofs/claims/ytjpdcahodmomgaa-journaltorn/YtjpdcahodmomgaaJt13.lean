import Derived.Test.YtjpdcahodmomgaaJt12
namespace Go.Proofs.Ytjpdcahodmomgaa
open Go.RowKit Go.PlainAid
set_option linter.unusedVariables false
set_option linter.unusedSimpArgs false
/-- A tale with a journal in use, between two lives. -/
structure TI (L tb jb p s W0 : Nat) (lo : List (Value × List UInt8)) (R : List (Ent L)) (w : World) (y : JV) (x : DV) (mv : Value) (hi : List (Value × List UInt8)) (wr : World) : Prop where
  h : Held (y.es L jb ++ (dmE L p s x :: (taleE L tb p mv lo hi ++ R))) wr
  b : Below L w wr
  p : y.p = p
  fin : y.fin = x.n
  recs : y.recs.map Prod.snd = mustL lo hi
  next : y.next = (itR x.b (mustL lo hi).length).2
  inv : Inv x.b x.n (mustL lo hi)
  n : x.n = 60
  off : x.off = false
  writes : x.writes ≤ W0
section
variable {L tb jb p s : Nat} {lo hi : List (Value × List UInt8)} {mv : Value} {R : List (Ent L)} {w : World} {y : JV} {x : DV}
/-- Another record of the law's own is told in the tale. -/
theorem tale_tell {wr : World} {Q : List (Ent L)} {uo : Option Addr} {n uc : Nat} {bs : List UInt8} (h : Held (taleE L tb p mv lo [] ++ Q) wr) (hm : lo.length ≤ 60) (hL : L ≤ wr.heap.size) :
    ∃ ro rc v6 w6, mv = .slice ro lo.length rc ∧ (∀ ty, (Builtin.append_ #[30, 30] ty #[.slice ro lo.length rc, .slice (some ⟨wr.heap.size, 0, none⟩) 1 1]).run Try.prog (wr.alloc (.cells #[.slice uo n uc] 38)) = .ok v6 w6) ∧ (∃ ao c, v6 = .slice ao (lo.length + 1) c) ∧ w6.cell? ⟨tb, 1, none⟩ = some mv ∧ w6.frozen? ⟨tb, 1, none⟩ = false ∧ w6.cell? ⟨tb, 0, none⟩ = some (.pointer (some ⟨p, 0, none⟩)) ∧
      Held (taleE L tb p v6 (lo ++ [(.slice uo n uc, bs)]) [] ++ Q) (w6.setCell ⟨tb, 1, none⟩ v6) ∧ Below L wr (w6.setCell ⟨tb, 1, none⟩ v6) := by
  obtain ⟨ro, rc, e⟩ := tail_val (tale_row h)
  rw [List.append_nil] at e
  have h1 := tale_open h
  rw [List.append_nil] at h1
  obtain ⟨v6, w6, hr, hH, hc, hf, hat⟩ := h1.tailApp (t := 30) Try.underlying30 info30 rfl (.slice uo n uc) rfl (by omega) (by omega) hL
  have hB := hH.drop.boxB
  have h2 := (hH.perm (List.Perm.swap ..)).boxSet 1 v6
  have hlt : L ≤ tb := (hH.all (boxE L tb #[.pointer (some ⟨p, 0, none⟩), mv] 48) (List.mem_cons_of_mem _ (List.mem_cons_self ..))).2
  refine ⟨ro, rc, v6, w6, e, fun ty => by rw [← e]; exact hr ty, hf, hB.cell 1, hB.frozen 1, hB.cell 0, ?_, ?_⟩
  · have e2 : taleE L tb p v6 (lo ++ [(.slice uo n uc, bs)]) [] ++ Q = boxE L tb #[.pointer (some ⟨p, 0, none⟩), v6] 48 :: tailE L 38 v6 (lo.length + 1) (lo.map Prod.fst ++ [.slice uo n uc]) :: ([].map (datE L) ++ Q) := by
      unfold taleE
      simp
    rw [e2]
    exact h2
  · refine (hc.below hL (fun k hk => (tail_lt (tale_row h) k hk).1)).trans ((setCell_chg _ _ _ _).below ?_ (fun k e => by rw [e]; exact hlt))
    exact Nat.le_trans hL hc.size
end
theorem arr3_cell {ds : List (Value × List UInt8)} {i : Nat} {d : Value × List UInt8} (h : ds[i]? = some d) : ((ds.map Prod.fst).toArray)[i]? = some d.1 := by
  simp [h]
set_option maxRecDepth 100000 in
set_option maxHeartbeats 25600000 in
theorem torn_law {v : Value} {ls : List (List UInt8)} {da db dc : Value × List UInt8} {s0 s1 s2 t0 t1 t2 : Int} (w : World) (hv : RowsA w v ls) (ha : Rb w.heap.size w 140737488351232 da.1 da.2) (hb : Rb w.heap.size w 140737488351232 db.1 db.2) (hc : Rb w.heap.size w 140737488351232 dc.1 dc.2)
    (hs : ∀ z ∈ [s0, s1, s2], -9223372036854775808 ≤ z ∧ z ≤ 9223372036854775807) (ht : ∀ z ∈ [t0, t1, t2], -9223372036854775808 ≤ z ∧ z ≤ 9223372036854775807) :
    Calls Try.prog 6 #[v, da.1, db.1, dc.1, .agg #[.int .i64 s0, .int .i64 s1, .int .i64 s2], .agg #[.int .i64 t0, .int .i64 t1, .int .i64 t2]] w fun e w' => e = .returned (.bool true) ∧ Below w.heap.size w w' := by
  obtain ⟨L, hLw⟩ : ∃ L, L = w.heap.size := ⟨_, rfl⟩
  rw [← hLw] at ha hb hc
  obtain ⟨dav, das⟩ := da
  obtain ⟨dbv, dbs⟩ := db
  obtain ⟨dcv, dcs⟩ := dc
  obtain ⟨ua, na, ca, hfa, _⟩ := ha.form
  obtain ⟨ub, nb, cb, hfb, _⟩ := hb.form
  obtain ⟨uc', nc, cc', hfc, _⟩ := hc.form
  change dav = _ at hfa
  change dbv = _ at hfb
  change dcv = _ at hfc
  subst hfa
  subst hfb
  subst hfc
  have HLL : Hid (L = w.heap.size) := hLw
  obtain ⟨ao, c, hvv, hvN, hrow⟩ := hv
  obtain ⟨N, hNN⟩ : ∃ N, N = ls.length := ⟨_, rfl⟩
  rw [← hNN] at hvv hvN
  have HROW : Hid (∀ i, i < N → ∃ b off uo k uc bs, ao = some ⟨b, off, none⟩ ∧ (∀ W, Below L w W → W.cell? ⟨b, off + i, none⟩ = some (.slice uo k uc)) ∧ Rb L w 140737488351232 (.slice uo k uc) bs) := fun i hi => by
    have hg : ls[i]? = some (ls[i]'(by omega)) := List.getElem?_eq_getElem _
    obtain ⟨b, off, uo, k, uc, e1, e2, e3, e4, e5⟩ := hrow i _ hg
    refine ⟨b, off, uo, k, uc, _, e1, fun W hW => ?_, ⟨⟨uo, k, uc, rfl, e4, ?_, ?_⟩, fun W hW => e3.keep (by rw [← hLw]; exact hW)⟩⟩
    · rw [hLw] at hW
      exact (hW.cell (World.block_lt_of_cell? _ _ e2)).trans e2
    · obtain ⟨_, _, _, q1, q2, _⟩ := e3; cases q1; exact q2
    · obtain ⟨_, _, _, q1, q2, _⟩ := e3; cases q1; omega
  have HABC : Hid (∀ (i : Nat) (d : Value × List UInt8), [(Value.slice ua na ca, das), (Value.slice ub nb cb, dbs), (Value.slice uc' nc cc', dcs)][i]? = some d → Rb L w 140737488351232 d.1 d.2) := fun i d hd => by
    match i, hd with
    | 0, hd => cases hd; exact ha
    | 1, hd => cases hd; exact hb
    | 2, hd => cases hd; exact hc
  have HS : Hid (∀ i : Nat, i < 3 → ∃ z : Int, (#[Value.int .i64 s0, .int .i64 s1, .int .i64 s2])[i]? = some (.int .i64 z) ∧ -9223372036854775808 ≤ z ∧ z ≤ 9223372036854775807) := fun i hi => by
    match i, hi with
    | 0, _ => exact ⟨s0, rfl, hs s0 (by simp)⟩
    | 1, _ => exact ⟨s1, rfl, hs s1 (by simp)⟩
    | 2, _ => exact ⟨s2, rfl, hs s2 (by simp)⟩
  have HT : Hid (∀ i : Nat, i < 3 → ∃ z : Int, (#[Value.int .i64 t0, .int .i64 t1, .int .i64 t2])[i]? = some (.int .i64 z) ∧ -9223372036854775808 ≤ z ∧ z ≤ 9223372036854775807) := fun i hi => by
    match i, hi with
    | 0, _ => exact ⟨t0, rfl, ht t0 (by simp)⟩
    | 1, _ => exact ⟨t1, rfl, ht t1 (by simp)⟩
    | 2, _ => exact ⟨t2, rfl, ht t2 (by simp)⟩
  have HN : Hid (N ≤ 9223372036854775807) := hvN
  obtain ⟨A1, hA1⟩ : ∃ A1, A1 = #[Value.int .i64 s0, .int .i64 s1, .int .i64 s2] := ⟨_, rfl⟩
  obtain ⟨A2, hA2⟩ : ∃ A2, A2 = #[Value.int .i64 t0, .int .i64 t1, .int .i64 t2] := ⟨_, rfl⟩
  rw [← hA1] at HS
  rw [← hA2] at HT
  obtain ⟨wa, hwa⟩ : ∃ wa, wa = w.alloc (.cells A1 55) := ⟨_, rfl⟩
  obtain ⟨wb, hwb⟩ : ∃ wb, wb = wa.alloc (.cells A2 55) := ⟨_, rfl⟩
  have hbwa : Below L w wa := by rw [hwa, hLw]; exact (Below.refl _ _).alloc (Nat.le_refl _) _
  have hsa : wa.heap.size = L + 1 := by rw [hwa, World.size_alloc, hLw]
  have hbwb : Below (L + 1) wa wb := by rw [hwb, ← hsa]; exact (Below.refl _ _).alloc (Nat.le_refl _) _
  have hsb : wb.heap.size = L + 2 := by rw [hwb, World.size_alloc, hsa]
  have hBa : Blk wa L A1 55 := by rw [hwa, hLw]; exact heap_alloc_new w _
  have hBb : Blk wb (L + 1) A2 55 := by rw [hwb, ← hsa]; exact heap_alloc_new wa _
  have hBab : Blk wb L A1 55 := hBa.below hbwb (by omega)
  have HH0 : Hid (Held [boxE L L A1 55, boxE L (L + 1) A2 55] wb ∧ Below L w wb ∧ wb.heap.size = L + 2) := by
    refine ⟨⟨fun e he => ?_, ?_⟩, hbwa.trans (hbwb.mono (by omega)), hsb⟩
    · rcases List.mem_cons.1 he with rfl | he
      · exact ⟨hBab, Nat.le_refl _⟩
      · rw [List.mem_singleton.1 he]; exact ⟨hBb, by omega⟩
    · refine List.pairwise_cons.2 ⟨fun e he => ?_, List.pairwise_singleton ..⟩
      rw [List.mem_singleton.1 he]
      intro k h1 h2
      have h3 : k = L := h1
      have h4 : k = L + 1 := h2
      omega
  have HNW : Hid _ := new_yes 60 wb ⟨by omega, by omega⟩
  rw [hsb] at HNW
  have hNW2 : (Calls Try.prog 13 #[.int .i64 60] wb fun e w' => e = .returned (.tuple #[.pointer (some ⟨L + 3, 0, none⟩), .int .i64 0]) ∧ DM (L + 2) (L + 3) (L + 2) (fresh 60) w' ∧ Below (L + 2) wb w') := HNW.out
  have HNW2 : Hid _ := hNW2
  subst hvv
  rw [hLw] at hsa
  clear ha hb hc hs ht hrow hNN hvN hbwa hbwb hsb hBa hBb hBab HNW hNW2
  go_enter Try.func6, Try.ntmps6
  go_upto_region 1 with fail
  rw [← hA1, ← hA2, ← hwa, ← hwb, ← hLw]
  clear hwa hwb hsa hLw hA1 hA2
  go_wp2_with fail
  refine Calls.mono HNW2.out ?_
  rintro e w1 ⟨rfl, hd1, hb1⟩
  clear HNW2
  have HA : Hid _ := able_yes w1
  have HD1 : Hid (DM (L + 2) (L + 3) (L + 2) (fresh 60) w1 ∧ Below (L + 2) wb w1) := ⟨hd1, hb1⟩
  obtain ⟨p, hp⟩ : ∃ p, p = L + 3 := ⟨_, rfl⟩
  obtain ⟨s, hs⟩ : ∃ s, s = L + 2 := ⟨_, rfl⟩
  have HPS : Hid (p = L + 3 ∧ s = L + 2) := ⟨hp, hs⟩
  rw [← hp]
  clear hd1 hb1 hp hs
  go_wp2_with fail
  refine Calls.mono HA.out ?_
  rintro e w2 ⟨rfl, hb2⟩
  clear HA
  obtain ⟨tb, htb⟩ : ∃ tb, tb = w2.heap.size := ⟨_, rfl⟩
  obtain ⟨w3, hw3⟩ : ∃ w3, w3 = w2.alloc (.cells #[.pointer (some ⟨p, 0, none⟩), .slice none 0 0] 48) := ⟨_, rfl⟩
  have HS3 : Hid (Held (dmE L p s (fresh 60) :: (taleE L tb p (.slice none 0 0) [] [] ++ [boxE L L A1 55, boxE L (L + 1) A2 55])) w3 ∧ Below L w w3) := by
    obtain ⟨h0, hbw, hsz⟩ := HH0.out
    obtain ⟨hd, hbd⟩ := HD1.out
    have hL1 : L + 2 ≤ w1.heap.size := by have := hbd.size; omega
    have hL2 : L ≤ w2.heap.size := by have := hb2.size; omega
    have hb3 : Below w2.heap.size w2 w3 := by rw [hw3]; exact (Below.refl _ _).alloc (Nat.le_refl _) _
    have h1 : Held (dmE L p s (fresh 60) :: [boxE L L A1 55, boxE L (L + 1) A2 55]) w1 := by
      refine Held.fresh h0 (by rw [hsz]; exact hbd) (show DM L p s (fresh 60) w1 by rw [HPS.out.1, HPS.out.2]; exact hd.low (by omega)) (fun k hk => ?_)
      rcases hk with hk | hk
      · rw [hk, HPS.out.1, hsz]; omega
      · rw [hk, HPS.out.2, hsz]; omega
    have h2 := h1.more hb2
    have h3 : Held (boxE L tb #[.pointer (some ⟨p, 0, none⟩), .slice none 0 0] 48 :: dmE L p s (fresh 60) :: [boxE L L A1 55, boxE L (L + 1) A2 55]) w3 := Held.fresh h2 hb3 ⟨by rw [hw3, htb]; exact heap_alloc_new w2 _, by rw [htb]; exact hL2⟩ (fun k hk => by have : k = tb := hk; omega)
    have h4 : Held (tailE L 38 (.slice none 0 0) 0 [] :: boxE L tb #[.pointer (some ⟨p, 0, none⟩), .slice none 0 0] 48 :: dmE L p s (fresh 60) :: [boxE L L A1 55, boxE L (L + 1) A2 55]) w3 := h3.add (tail_nil _ _ _) (fun k hk => by cases hk)
    refine ⟨h4.perm ?_, hbw.trans ((hbd.mono (by omega)).trans ((hb2.mono (by omega)).trans (hb3.mono hL2)))⟩
    have := (List.perm_append_comm (l₁ := [boxE L tb #[.pointer (some ⟨p, 0, none⟩), .slice none 0 0] 48, tailE L 38 (.slice none 0 0) 0 []]) (l₂ := [dmE L p s (fresh 60)])).append_right [boxE L L A1 55, boxE L (L + 1) A2 55]
    exact (List.Perm.swap ..).trans this
  clear HH0 HD1 hb2
  go_upto_region 5 with fail
  rw [← hw3, ← htb]
  clear hw3 htb
  have HOP : Hid _ := opened_any (mo := none) (mn := 0) (mc := 0) false w3 HS3.out.1 (fun _ _ _ d hd => by cases hd) (by show 60 ≤ 60; omega) (Or.inl (inv_zero 60))
  go_wp2_with fail
  refine Calls.mono HOP.out ?_
  rintro e w4 ⟨jb, y0, mv0, hi0, rfl, hO⟩
  clear HOP
  obtain ⟨R2, hR2⟩ : ∃ R2 : List (Ent L), R2 = [boxE L L A1 55, boxE L (L + 1) A2 55] := ⟨_, rfl⟩
  have HR2 : Hid (R2 = [boxE L L A1 55, boxE L (L + 1) A2 55]) := hR2
  rw [← hR2] at hO
  have hhi : hi0 = [] := by
    have h1 := hO.inv.full.one (inv_zero 60).full
    rw [mustL_len] at h1
    exact List.eq_nil_of_length_eq_zero (by simpa using h1)
  subst hhi
  have HI0 : Hid (LI L jb p s 60 0 (-1) (taleE L tb p mv0 [] [] ++ R2) w y0 (fresh 60).on (mustL [] []) w4) := ⟨hO.h, HS3.out.2.trans hO.b, hO.p, hO.fin, hO.recs, hO.next, hO.inv, rfl, Nat.le_refl _, rfl, Nat.zero_le _, Nat.zero_le _, Nat.zero_le _, by omega, fun e => by cases e⟩
  clear hO HS3 hR2
  have hNm := HN.out
  go_wp2_with fail
  go_loopw [17] (fun s17 wr => ∃ i : Nat, i ≤ 3 ∧ i ≤ N ∧ s17 = .int .i64 (i : Int) ∧ ∃ lo mv y x, lo.length = i ∧ (∀ d ∈ lo, (∀ W, Below L w W → By W d.1 d.2) ∧ d.2.length ≤ 1000) ∧ LI L jb p s 60 0 (-1) (taleE L tb p mv lo [] ++ R2) w y x (mustL lo []) wr) (fun s17 _ => 3 - (intOf s17).toNat)
  case atStart => exact ⟨0, by omega, by omega, rfl, [], _, _, _, rfl, (fun d hd => by cases hd), HI0.out⟩
  case round =>
    clear HI0
    obtain ⟨i, hi3, hiN, rfl, lo, mv, y, x, hlo, hlod, hI⟩ := hrel
    have HI : Hid (LI L jb p s 60 0 (-1) (taleE L tb p mv lo [] ++ R2) w y x (mustL lo []) wr) := hI
    have HLO : Hid (lo.length = i ∧ ∀ d ∈ lo, (∀ W, Below L w W → By W d.1 d.2) ∧ d.2.length ≤ 1000) := ⟨hlo, hlod⟩
    have hle := hI.le
    have hfew := hI.inv.few (fun r hr => by
      unfold mustL at hr
      rw [List.append_nil] at hr
      obtain ⟨d, hd, rfl⟩ := List.mem_map.1 hr
      exact (hlod d hd).2)
    rw [← hI.next, mustL_len, List.append_nil, hlo] at hfew
    clear hlo hlod hI
    by_cases hlt : i < N ∧ i < 3
    · obtain ⟨hlt, hlt3⟩ := hlt
      have hlti : (i : Int) < (N : Int) := by omega
      have hlti3 : (i : Int) < 3 := by omega
      obtain ⟨b, off, uo, k, uc, bs, hao, hcell, hrb⟩ := HROW.out i hlt
      have c1 := hcell wr HI.out.b
      have HRB : Hid (Rb L w 140737488351232 (.slice uo k uc) bs) := hrb
      have hku : k ≤ uc := by obtain ⟨⟨_, _, _, e1, e2, _⟩, _⟩ := hrb; cases e1; exact e2
      have hkl : bs.length = k := by obtain ⟨⟨_, _, _, e1, _, e2, _⟩, _⟩ := hrb; cases e1; exact e2
      have hkm : k ≤ 140737488351232 := by obtain ⟨⟨_, _, _, e1, _, _, e2⟩, _⟩ := hrb; cases e1; exact e2
      subst hao
      have HKL : Hid (bs.length = k) := hkl
      clear hcell hrb hkl
      have HKU : Hid (k ≤ uc) := hku
      go_upto_if 63 with fail
      go_cut [18] from 61 to 83 (fun s18 wy => wy = wr ∧ ∃ n2 bs2, s18 = .slice uo n2 uc ∧ n2 ≤ 1000 ∧ n2 ≤ uc ∧ bs2.length = n2 ∧ ∀ W, Below L w W → By W (.slice uo n2 uc) bs2)
      case first =>
        by_cases hk1 : 1000 < k
        · have hk1i : (1000 : Int) < (k : Int) := by omega
          obtain ⟨g, o, huo⟩ := (HRB.out.by' wr HI.out.b).spot (by omega)
          have hsl : ∀ W, (Instr.sliceAt 38 (.slice uo k uc) none (some (.int .i64 1000)) none).run Try.prog W = .ok (.slice uo 1000 uc) W := fun W => by rw [huo]; exact slice38h g o k uc 1000 (by omega) W
          have HUO : Hid (uo = some ⟨g, o, none⟩) := huo
          rw [show decide ((1000 : Int) < (k : Int)) = true from decide_eq_true hk1i]
          clear huo
          go_wp2_with fail
          go_meet
          case rel => exact ⟨rfl, 1000, bs.take 1000, rfl, Nat.le_refl _, by have := HKU.out; omega, by rw [List.length_take, HKL.out]; omega, fun W hW => (HRB.out.by' W hW).take (by omega) (fun e => by rw [HUO.out] at e; cases e)⟩
        · have hk1i : ¬ (1000 : Int) < (k : Int) := by omega
          rw [show decide ((1000 : Int) < (k : Int)) = false from decide_eq_false hk1i]
          go_wp2_with fail
          go_meet
          case rel => exact ⟨rfl, k, bs, rfl, by omega, HKU.out, HKL.out, fun W hW => HRB.out.by' W hW⟩
      case rest =>
        obtain ⟨hwc, n, bs2, rfl, hn1, hnu, hbl, hby⟩ := hcut
        replace hwc := hwc.symm
        subst hwc
        have HSB : Hid (bs2.length = n ∧ ∀ W, Below L w W → By W (.slice uo n uc) bs2) := ⟨hbl, hby⟩
        have hln := lent_any wr (hby wr HI.out.b) (by omega)
        rw [hbl] at hln
        have HLN : Hid _ := hln
        clear hln hby hbl HRB HKL HKU hku hkm c1
        go_wp2_with fail
        refine Calls.mono HLN.out ?_
        rintro e w5 ⟨g, cc, rfl, hcc, hown, hb5⟩
        clear HLN
        have hsl : ∀ W, (Instr.sliceAt 38 (.slice (some ⟨g, 0, none⟩) (n + 2) cc) none (some (.int .i64 (n : Int))) none).run Try.prog W = .ok (.slice (some ⟨g, 0, none⟩) n cc) W := fun W => slice38h g 0 (n + 2) cc n (by omega) W
        have HAP : Hid _ := HI.out.append w5 hb5 hown HSB.out.1 hcc (by omega)
        clear hown hb5 hcc
        go_wp2_with fail
        refine Calls.mono HAP.out ?_
        rintro e w6 hA
        clear HAP hsl
        rcases hA with ⟨hn8, rfl, hI4⟩ | ⟨hn8, hrm17, rfl, hI4⟩ | ⟨hn8, rfl, y4, x4, hnx4, hI4⟩ | ⟨hn8, haf0, rfl, x4, hoff4, hn4, hwr4, hH4, hb4, hinv4⟩
        · exact absurd hn8 (by omega)
        · exact absurd hrm17 (by omega)
        · obtain ⟨ro, rc, v6, w7, hmv, hr6, ⟨vo6, vc6, hv6⟩, e1, f1, e0, hT7, hb7⟩ := tale_tell (uo := uo) (n := n) (uc := uc) (bs := bs2) hI4.tale (by rw [HLO.out.1]; omega) (jlow hI4.h)
          rw [HLO.out.1] at hmv hr6 hv6
          have d1 : w6.cell? ⟨tb, 1, none⟩ = some (.slice ro i rc) := ((tale_box hI4.tale).cell 1).trans (congrArg some hmv)
          have HR6 : Hid (∀ ty, (Builtin.append_ #[30, 30] ty #[.slice ro i rc, .slice (some ⟨w6.heap.size, 0, none⟩) 1 1]).run Try.prog (w6.alloc (.cells #[.slice uo n uc] 38)) = .ok v6 w7) := hr6
          have HNX : Hid (∃ lo mv y x, lo.length = i + 1 ∧ (∀ d ∈ lo, (∀ W, Below L w W → By W d.1 d.2) ∧ d.2.length ≤ 1000) ∧ LI L jb p s 60 0 (-1) (taleE L tb p mv lo [] ++ R2) w y x (mustL lo []) (w7.setCell ⟨tb, 1, none⟩ v6)) := by
            refine ⟨lo ++ [(.slice uo n uc, bs2)], v6, y4, x4, by rw [List.length_append, HLO.out.1]; rfl, fun d hd => ?_, ?_⟩
            · rcases List.mem_append.1 hd with h9 | h9
              · exact HLO.out.2 d h9
              · rw [List.mem_singleton.1 h9]; exact ⟨HSB.out.2, by show bs2.length ≤ 1000; rw [HSB.out.1]; exact hn1⟩
            · have e9 : mustL (lo ++ [(Value.slice uo n uc, bs2)]) [] = mustL lo [] ++ [bs2] := by unfold mustL; simp
              rw [e9]
              exact hI4.rest (hT7.perm (perm_tale ..).symm) (hI4.b.trans hb7)
          rw [hmv] at e1
          subst hv6
          clear hI4 hr6 hT7 hb7 hmv hnx4 hle hfew e0
          go_wp2_with (at_builtin; refine wpList_runs rfl _ _ 30 rfl rfl rfl HR6.out ?_)
          go_roundw
          case rel => exact ⟨i + 1, by omega, by omega, by go_num, HNX.out⟩
          case measure => simp [intOf]; omega
        · exact absurd haf0 (by omega)
    · have hex : ¬ ((i : Int) < (N : Int)) ∨ ((i : Int) < (N : Int) ∧ ¬ ((i : Int) < 3)) := by omega
      obtain ⟨Z, hZ⟩ : ∃ Z : Array Value, Z = #[Value.slice ua na ca, Value.slice ub nb cb, Value.slice uc' nc cc'] := ⟨_, rfl⟩
      obtain ⟨K0, hK0⟩ : ∃ K0, K0 = wr.heap.size := ⟨_, rfl⟩
      obtain ⟨X0, hX0⟩ : ∃ X0, X0 = wr.alloc (.cells Z 56) := ⟨_, rfl⟩
      have HZ : Hid (∀ i : Nat, i < 3 → ∃ uo n uc bs, Z[i]? = some (.slice uo n uc) ∧ Rb L w 140737488351232 (.slice uo n uc) bs) := fun i hi => by
        match i, hi with
        | 0, _ => exact ⟨_, _, _, _, by rw [hZ]; rfl, HABC.out 0 _ rfl⟩
        | 1, _ => exact ⟨_, _, _, _, by rw [hZ]; rfl, HABC.out 1 _ rfl⟩
        | 2, _ => exact ⟨_, _, _, _, by rw [hZ]; rfl, HABC.out 2 _ rfl⟩
      have HTI : Hid (TI L tb jb p s 100 lo (boxE L K0 Z 56 :: R2) w y x mv [] X0) := by
        have h1 := HI.out
        have hL1 := jlow h1.h
        have hb0 : Below wr.heap.size wr X0 := by rw [hX0]; exact (Below.refl _ _).alloc (Nat.le_refl _) _
        have h2 : Held (boxE L K0 Z 56 :: (y.es L jb ++ (dmE L p s x :: (taleE L tb p mv lo [] ++ R2)))) X0 := Held.fresh h1.h hb0 ⟨by rw [hX0, hK0]; exact heap_alloc_new wr _, by rw [hK0]; exact hL1⟩ (fun k hk => by have : k = K0 := hk; omega)
        refine ⟨h2.perm ?_, h1.b.trans (hb0.mono hL1), h1.p, h1.fin.trans h1.n.symm, h1.recs, h1.next, by rw [h1.n]; exact h1.inv, h1.n, h1.off, ?_⟩
        · have := (List.perm_middle (a := boxE L K0 Z 56) (l₁ := y.es L jb ++ (dmE L p s x :: taleE L tb p mv lo [])) (l₂ := R2)).symm
          simpa [List.append_assoc] using this
        · have := h1.writes
          have := h1.le
          have := h1.n60
          omega
      have HLS : Hid (∀ W, Below L w W → ∀ d ∈ lo, By W d.1 d.2) := fun W hW d hd => (HLO.out.2 d hd).1 W hW
      rw [hZ] at hX0
      clear hle hfew HI HLO HABC hZ
      rcases hex with hx | ⟨hx, hx2⟩
      all_goals
        go_upto_region 18 with fail
        rw [← hX0, ← hK0]
        clear hX0 hK0 hx
        go_wp2_with fail
        go_loopw [16, 20] (fun s16 s20 wr => ∃ i : Nat, i ≤ 3 ∧ s20 = .int .i64 (i : Int) ∧ ∃ jb y mv hi x, s16 = .pointer (some ⟨jb, 0, none⟩) ∧ TI L tb jb p s (100 + 100 * i) lo (boxE L K0 Z 56 :: R2) w y x mv hi wr) (fun _ s20 _ => 3 - (intOf s20).toNat)
        case atStart => exact ⟨0, Nat.zero_le _, rfl, _, _, _, _, _, rfl, HTI.out⟩
        case round =>
          clear HTI
          obtain ⟨i2, hi23, rfl, jb2, y2, mv2, hi2, x2, rfl, hI⟩ := hrel
          by_cases hlt2 : i2 < 3
          · have hlti2 : (i2 : Int) < 3 := by omega
            have HI : Hid (TI L tb jb2 p s (100 + 100 * i2) lo (boxE L K0 Z 56 :: R2) w y2 x2 mv2 hi2 wr) := hI
            have hBK : Blk wr K0 Z 56 := (hI.h.all (boxE L K0 Z 56) (by simp)).1
            have hB1 : Blk wr L A1 55 := (hI.h.all (boxE L L A1 55) (by rw [HR2.out]; simp)).1
            have hB2 : Blk wr (L + 1) A2 55 := (hI.h.all (boxE L (L + 1) A2 55) (by rw [HR2.out]; simp)).1
            obtain ⟨uo, k, uc, bs, hz, hrb⟩ := HZ.out i2 hlt2
            obtain ⟨ti, hti, htib⟩ := HT.out i2 hlt2
            obtain ⟨si, hsi, hsib⟩ := HS.out i2 hlt2
            have cK : wr.cell? ⟨K0, i2, none⟩ = some (.slice uo k uc) := (hBK.cell i2).trans hz
            have cT : wr.cell? ⟨L + 1, i2, none⟩ = some (.int .i64 ti) := (hB2.cell i2).trans hti
            have HCS : Hid (∀ W, Below wr.heap.size wr W → W.cell? ⟨L, i2, none⟩ = some (.int .i64 si)) := fun W hW => ((hB1.below hW hB1.lt).cell i2).trans hsi
            have HSI : Hid (-9223372036854775808 ≤ si ∧ si ≤ 9223372036854775807) := hsib
            have HW1 : Hid (Calls Try.prog 10 #[.int .i64 ti, .int .i64 1025] wr fun e w' => ∃ k : Nat, k < 1025 ∧ e = .returned (.int .i64 (k : Int)) ∧ w' = wr) := within_any ti 1025 wr htib (by omega)
            have HRB : Hid (Rb L w 140737488351232 (.slice uo k uc) bs) := hrb
            have hku : k ≤ uc := by obtain ⟨⟨_, _, _, e1, e2, _⟩, _⟩ := hrb; cases e1; exact e2
            have hkl : bs.length = k := by obtain ⟨⟨_, _, _, e1, _, e2, _⟩, _⟩ := hrb; cases e1; exact e2
            have hkm : k ≤ 140737488351232 := by obtain ⟨⟨_, _, _, e1, _, _, e2⟩, _⟩ := hrb; cases e1; exact e2
            have HKL : Hid (bs.length = k ∧ k ≤ uc) := ⟨hkl, hku⟩
            clear hI hBK hB1 hB2 hz hti hsi htib hsib hrb hkl
            go_upto_if 97 with fail
            go_cut [21] from 95 to 133 (fun s21 wy => wy = wr ∧ ∃ n2 bs2, s21 = .slice uo n2 uc ∧ n2 ≤ 4000 ∧ n2 ≤ uc ∧ bs2.length = n2 ∧ ∀ W, Below L w W → By W (.slice uo n2 uc) bs2)
            case first =>
              by_cases hk1 : 4000 < k
              · have hk1i : (4000 : Int) < (k : Int) := by omega
                obtain ⟨g, o, huo⟩ := (HRB.out.by' wr HI.out.b).spot (by omega)
                have hsl : ∀ W, (Instr.sliceAt 38 (.slice uo k uc) none (some (.int .i64 4000)) none).run Try.prog W = .ok (.slice uo 4000 uc) W := fun W => by rw [huo]; exact slice38h g o k uc 4000 (by omega) W
                have HUO : Hid (uo = some ⟨g, o, none⟩) := huo
                rw [show decide ((4000 : Int) < (k : Int)) = true from decide_eq_true hk1i]
                clear huo
                go_wp2_with fail
                go_meet
                case rel => exact ⟨rfl, 4000, bs.take 4000, rfl, Nat.le_refl _, by have := HKL.out; omega, by rw [List.length_take, HKL.out.1]; omega, fun W hW => (HRB.out.by' W hW).take (by omega) (fun e => by rw [HUO.out] at e; cases e)⟩
              · have hk1i : ¬ (4000 : Int) < (k : Int) := by omega
                rw [show decide ((4000 : Int) < (k : Int)) = false from decide_eq_false hk1i]
                go_wp2_with fail
                go_meet
                case rel => exact ⟨rfl, k, bs, rfl, by omega, HKL.out.2, HKL.out.1, fun W hW => HRB.out.by' W hW⟩
            case rest =>
              obtain ⟨hwc, n, bs2, rfl, hn1, hnu, hbl, hby⟩ := hcut
              replace hwc := hwc.symm
              subst hwc
              have HSB : Hid (bs2.length = n ∧ n ≤ 4000 ∧ ∀ W, Below L w W → By W (.slice uo n uc) bs2) := ⟨hbl, hn1, hby⟩
              clear hn1 hnu hbl hby HRB HKL hku hkm cK
              go_wp2_with fail
              refine Calls.mono HW1.out ?_
              rintro e wn ⟨k1, hk1, rfl, hwn⟩
              replace hwn := hwn.symm
              subst hwn
              clear HW1 cT
              have ew1 : IntKind.i64.wrap ((k1 : Int) - 512) = (k1 : Int) - 512 := by rw [IntKind.wrap_i64]; omega
              have ew2 : IntKind.i64.wrap ((k1 : Int) - 512 + 513) = (k1 : Int) - 512 + 513 := by rw [IntKind.wrap_i64]; omega
              go_upto_if 106 with fail
              go_cut [22] from 105 to 133 (fun s22 wy => wy = wr ∧ ∃ tn : Int, s22 = .int .i64 tn)
              case first =>
                by_cases hneg : (k1 : Int) - 512 < 0
                · first
                    | rw [show decide ((k1 : Int) - 512 < 0) = true from decide_eq_true hneg]
                    | skip
                  go_wp2_with fail
                  all_goals
                    go_meet
                    case rel => exact ⟨rfl, _, rfl⟩
                · first
                    | rw [show decide ((k1 : Int) - 512 < 0) = false from decide_eq_false hneg]
                    | skip
                  go_wp2_with fail
                  all_goals
                    go_meet
                    case rel => exact ⟨rfl, _, rfl⟩
              case rest =>
                obtain ⟨hwc, tn, rfl⟩ := hcut
                replace hwc := hwc.symm
                subst hwc
                clear ew1 ew2 hk1
                obtain ⟨G, hG⟩ : ∃ G, G = wr.heap.size := ⟨_, rfl⟩
                obtain ⟨X1, hX1⟩ : ∃ X1, X1 = wr.alloc (.cells #[.slice uo n uc] 38) := ⟨_, rfl⟩
                have hbX1 : Below wr.heap.size wr X1 := by rw [hX1]; exact (Below.refl _ _).alloc (Nat.le_refl _) _
                have hLr : L ≤ wr.heap.size := jlow HI.out.h
                have cS := HCS.out X1 hbX1
                rw [hX1] at cS
                have HW2 : Hid (Calls Try.prog 10 #[.int .i64 si, .int .i64 10] X1 fun e w' => ∃ k : Nat, k < 10 ∧ e = .returned (.int .i64 (k : Int)) ∧ w' = X1) := within_any si 10 X1 HSI.out (by omega)
                have HX1 : Hid (Held (y2.es L jb2 ++ (dmE L p s x2 :: (taleE L tb p mv2 lo hi2 ++ (boxE L G #[.slice uo n uc] 38 :: (boxE L K0 Z 56 :: R2))))) X1 ∧ Below L w X1) := by
                  have h2 : Held (boxE L G #[.slice uo n uc] 38 :: (y2.es L jb2 ++ (dmE L p s x2 :: (taleE L tb p mv2 lo hi2 ++ (boxE L K0 Z 56 :: R2))))) X1 := Held.fresh HI.out.h hbX1 ⟨by rw [hX1, hG]; exact heap_alloc_new wr _, by rw [hG]; exact hLr⟩ (fun k hk => by have : k = G := hk; omega)
                  refine ⟨h2.perm ?_, HI.out.b.trans (hbX1.mono hLr)⟩
                  have := (List.perm_middle (a := boxE L G #[.slice uo n uc] 38) (l₁ := y2.es L jb2 ++ (dmE L p s x2 :: taleE L tb p mv2 lo hi2)) (l₂ := boxE L K0 Z 56 :: R2)).symm
                  simpa [List.append_assoc] using this
                clear hbX1 hLr HCS
                go_wp2_with fail
                rw [← hX1, ← hG]
                clear cS hX1 hG
                refine Calls.mono HW2.out ?_
                rintro e wn ⟨k2, hk2, rfl, hwn⟩
                replace hwn := hwn.symm
                subst hwn
                clear HW2
                have HHR : Hid (∀ W, Below L X1 W → Held (boxE L G #[.slice uo n uc] 38 :: (boxE L K0 Z 56 :: R2)) W → RowsV W (.slice (some ⟨G, 0, none⟩) 1 1) [(.slice uo n uc, bs2)]) := fun W hW hR => by
                  have hB : Blk W G #[.slice uo n uc] 38 := hR.boxB
                  refine ⟨_, 1, rfl, fun i d hd => ?_⟩
                  match i, hd with
                  | 0, hd =>
                    cases hd
                    exact ⟨⟨G, 0, rfl, hB.cell 0⟩, HSB.out.2.2 W (HX1.out.2.trans hW)⟩
                have HLF : Hid _ := life_any (R := boxE L G #[.slice uo n uc] 38 :: (boxE L K0 Z 56 :: R2)) (af := (k2 : Int)) (ds := [(.slice uo n uc, bs2)]) tn false X1 HX1.out.1 HI.out.p HI.out.fin HI.out.recs HI.out.next HI.out.inv (by rw [HI.out.n]; omega) HI.out.off (by have := HI.out.writes; omega) (by omega) HHR.out (fun d hd => by rw [List.mem_singleton.1 hd]; show bs2.length ≤ _; have := HSB.out; omega) (by show 1 ≤ _; omega)
                unfold lifeC at HLF
                go_wp2_with fail
                refine Calls.mono HLF.out ?_
                rintro e w5 ⟨pv, perh5, mv5, hi5, x5, rfl, hL5⟩
                clear HLF
                have HL5 : Hid (LfO L tb p s x2.n x2.writes lo (boxE L G #[.slice uo n uc] 38 :: (boxE L K0 Z 56 :: R2)) X1 [(.slice uo n uc, bs2)] pv perh5 mv5 hi5 x5 w5) := hL5
                have HAE : Hid _ := arm_end w5 (hL5.h.all (dmE L p s x5) (List.mem_cons_self ..))
                clear hL5
                go_wp2_with fail
                refine Calls.mono HAE.out ?_
                rintro e w6 ⟨rfl, x6, ex1, ex2, ex3, hd6, hc6⟩
                clear HAE
                have HH6 : Hid (Held (dmE L p s x6 :: (taleE L tb p mv5 lo hi5 ++ (boxE L K0 Z 56 :: R2))) w6 ∧ Below L w w6 ∧ x6.n = 60 ∧ x6.writes ≤ 100 + 100 * (i2 + 1) ∧ MayO L w6 (boxE L K0 Z 56 :: R2) x6 (mustL lo hi5) (.slice uo n uc) perh5) := by
                  have h5 := HL5.out
                  have hdm := (h5.h.all (dmE L p s x5) (List.mem_cons_self ..))
                  have h6 := h5.h.swap (e' := dmE L p s x6) (hc6.mono (fun k _ e => Or.inl e)) hd6 (fun k hk => Or.inl hk)
                  have hb5 : Below L w w5 := HX1.out.2.trans h5.b
                  have hb6 : Below L w w6 := hb5.trans (hc6.below (h5.h.lowL (k := p) (Or.inl rfl)) (fun k e => by rw [e]; exact (hdm.lt (Or.inl rfl)).1))
                  have hn6 : x6.n = x2.n := ex2.trans h5.n
                  refine ⟨Held.subl h6 (List.Sublist.cons_cons _ (List.Sublist.append (List.Sublist.refl _) (List.Sublist.cons _ (List.Sublist.refl _)))), hb6, hn6.trans HI.out.n, ?_, ?_⟩
                  · have h7 := h5.writes
                    have h8 := HI.out.writes
                    rw [ex3]
                    omega
                  · unfold MayO
                    rw [ex1, hn6]
                    rcases h5.inv with ⟨h1, h2, h3⟩ | ⟨h1, d, h2, h3, h4, h9 | h9⟩
                    · exact Or.inl h3
                    · exact Or.inl h9
                    · rw [List.mem_singleton.1 h2] at h9 h4
                      exact Or.inr ⟨h1, bs2, h4, fun W hW _ => HSB.out.2.2 W (hb6.trans hW), h9⟩
                clear ex1 ex2 ex3 hd6 hc6 HL5 HI HX1
                have HO6 : Hid _ := opened_any perh5 w6 HH6.out.1 (fun W hW _ => HLS.out W (HH6.out.2.1.trans hW)) (by rw [HH6.out.2.2.1]; omega) HH6.out.2.2.2.2
                go_wp2_with fail
                refine Calls.mono HO6.out ?_
                rintro e w7 ⟨jb7, y7, mv7, hi7, rfl, hO⟩
                clear HO6
                have HNX : Hid (TI L tb jb7 p s (100 + 100 * (i2 + 1)) lo (boxE L K0 Z 56 :: R2) w y7 x6.on mv7 hi7 w7) := ⟨hO.h, HH6.out.2.1.trans hO.b, hO.p, hO.fin, hO.recs, hO.next, hO.inv, HH6.out.2.2.1, rfl, HH6.out.2.2.2.1⟩
                clear hO HH6
                go_wp2_with fail
                go_roundw
                case rel => exact ⟨i2 + 1, by omega, by go_num, _, _, _, _, _, rfl, HNX.out⟩
                case measure => simp [intOf]; omega
          · have hlti2 : ¬ (i2 : Int) < 3 := by omega
            have HBB : Hid (Below L w wr) := hI.b
            clear hI
            go_wp2_with fail
            go_ret
            exact ⟨rfl, by rw [← HLL.out]; exact HBB.out⟩
end Go.Proofs.Ytjpdcahodmomgaa
