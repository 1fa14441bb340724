import Derived.Test.YtkdndfdofhnagaaDoorOnce1
import Derived.Test.YtkdndfdofhnagaaDoorOnce40
namespace Go.Proofs.YtkdndfdofhnagaaDoor
open Go.RowKit Go.PlainAid
set_option linter.unusedVariables false
set_option linter.unusedSimpArgs false
def ORel (S : Sens) (hb mb lb : Nat) (m : Int) (k : Nat) (v : Value) (W wr : World) : Prop := ∃ b s es, OSt S hb mb lb b s es v W wr ∧ es.length ≤ k ∧ b.me = m
/-- .. with the call's own box. -/
structure OB (S : Sens) (hb mb lb : Nat) (b : BS) (s : LS) (es : List OpA) (v : Value) (W : World) (bx : Nat) (o : OpA) (wr : World) : Prop where
  st : OSt S hb mb lb b s es v W wr
  blk : Blk wr bx #[.int .i64 o.k, .int .i64 o.a, .int .i64 o.b, .bool o.o] 29
  ne : ∀ k, v.ownBlock = some k → k ≠ bx
  lo : W.heap.size ≤ bx
section
variable {S : Sens} {hb mb lb bx : Nat} {b b' : BS} {s s' : LS} {es es' : List OpA} {v v' : Value} {o : OpA} {W wr w2 : World}
theorem OSt.box (h : OSt S hb mb lb b s es v W wr) (o : OpA) : OB S hb mb lb b s es v W wr.heap.size o (wr.alloc (.cells #[.int .i64 o.k, .int .i64 o.a, .int .i64 o.b, .bool o.o] 29)) :=
  ⟨h.more ((Below.refl _ _).alloc (Nat.le_refl _) _), heap_alloc_new wr _, fun k e => Nat.ne_of_lt (ownsRow_lt h.row e).2, h.low⟩
theorem OB.more (h : OB S hb mb lb b s es v W bx o wr) (hb2 : Below wr.heap.size wr w2) : OB S hb mb lb b s es v W bx o w2 := ⟨h.st.more hb2, h.blk.below hb2 h.blk.lt, h.ne, h.lo⟩
theorem OB.c0 (h : OB S hb mb lb b s es v W bx o wr) : wr.cell? ⟨bx, 0, none⟩ = some (.int .i64 o.k) := h.blk.cell 0
theorem OB.c1 (h : OB S hb mb lb b s es v W bx o wr) : wr.cell? ⟨bx, 1, none⟩ = some (.int .i64 o.a) := h.blk.cell 1
theorem OB.c2 (h : OB S hb mb lb b s es v W bx o wr) : wr.cell? ⟨bx, 2, none⟩ = some (.int .i64 o.b) := h.blk.cell 2
theorem OB.step (h : OB S hb mb lb b s es v W bx o wr) (hc : Chg (fun k => k = hb ∨ k = mb ∨ k = lb) wr w2) (hB : Bk hb mb b' w2) (hl : Blk w2 lb s'.cs 71) (ho : OI b' s' es) : OB S hb mb lb b' s' es v W bx o w2 := by
  obtain ⟨h1, h2⟩ := h.st.step hc hB hl
  refine ⟨⟨h1, ho, h2⟩, hc.blk h.blk (fun e => ?_), h.ne, h.lo⟩
  rcases e with e | e | e
  · exact h.blk.ne_t h.st.bk.bk.blk (by decide) e
  · exact h.blk.ne_m h.st.bk.bk.map e
  · exact h.blk.ne_t h.st.bk.led (by decide) e
/-- A hold has come: book and ledger have changed, what the law keeps not yet. -/
theorem OB.held (h : OB S hb mb lb b s es v W bx o wr) (hc : Chg (fun k => k = hb ∨ k = mb ∨ k = lb) wr w2) (hB : Bk hb mb b' w2) (hl : Blk w2 lb s'.cs 71) : BkS S hb mb lb b' s' W w2 ∧ w2.ownsRow W.heap.size 29 4 v es.length (flatO es) ∧ Blk w2 bx #[.int .i64 o.k, .int .i64 o.a, .int .i64 o.b, .bool o.o] 29 := by
  obtain ⟨h1, h2⟩ := h.st.step hc hB hl
  refine ⟨h1, h2, hc.blk h.blk (fun e => ?_)⟩
  rcases e with e | e | e
  · exact h.blk.ne_t h.st.bk.bk.blk (by decide) e
  · exact h.blk.ne_m h.st.bk.bk.map e
  · exact h.blk.ne_t h.st.bk.led (by decide) e
end
theorem row_cells {W wr : World} {v : Value} {es : List OpA} (h : wr.ownsRow W.heap.size 29 4 v es.length (flatO es)) {j : Nat} {e : OpA} (hj : es[j]? = some e) : ∃ g cap, v = .slice (some ⟨g, 0, none⟩) es.length cap ∧ wr.cell? ⟨g, j * 4, none⟩ = some (.int .i64 e.k) ∧ wr.cell? ⟨g, j * 4 + 1, none⟩ = some (.int .i64 e.a) ∧ wr.cell? ⟨g, j * 4 + 2, none⟩ = some (.int .i64 e.b) ∧ wr.cell? ⟨g, j * 4 + 3, none⟩ = some (.bool e.o) := by
  obtain ⟨ao, cap, hv, _, _, hc⟩ := own_read h
  obtain ⟨g, hg, _, _, hcc⟩ := hc (by have := (List.getElem?_eq_some_iff.1 hj).1; omega)
  obtain ⟨f0, f1, f2, f3⟩ := flatO_get _ _ _ hj
  exact ⟨g, cap, by rw [hv, hg], hcc _ _ f0, hcc _ _ f1, hcc _ _ f2, hcc _ _ f3⟩
theorem liv_take {es : List OpA} {j : Nat} {e : OpA} (h : es[j]? = some e) : liv (es.take (j + 1)) = liv (es.take j) ++ liv [e] := by rw [List.take_add_one, h]; simp [liv_append]
theorem sum_take {b : BS} {s : LS} {es : List OpA} (h : OI b s es) (j : Nat) : 0 ≤ sumH (liv (es.take j)) ∧ sumH (liv (es.take j)) ≤ 700 := by
  have h1 : liv (es.take j) ++ liv (es.drop j) = b.L := by rw [← liv_append, List.take_append_drop, h.L]
  have hA := sumH_le (liv (es.take j)) (fun x hx => h.bd x (by rw [← h1]; simp [hx]))
  have hB := sumH_le (liv (es.drop j)) (fun x hx => h.bd x (by rw [← h1]; simp [hx]))
  have h2 := h.held
  rw [← h1, sumH_append] at h2
  have h3 := h.tot
  have h4 := h.sok
  have := h4.d0
  have := h4.u0
  omega
theorem me_mod (x : Int) : 0 ≤ x % 16 ∧ x % 16 < 16 := ⟨Int.emod_nonneg _ (by decide), Int.emod_lt_of_pos _ (by decide)⟩
theorem ncode0 {m r : Int} (h1 : 0 ≤ m) (h2 : m < 16) (h3 : 0 ≤ r) (h4 : r ≤ 16) : ncode m r = 0 := by simp [ncode, h1, h2, h3, h4]
section
variable {S : Sens} {hb mb lb : Nat} {b : BS} {s : LS} {W wr : World}
theorem bks_box {wb k : Nat} {u : Value} {C : Array Value} (h : BkS S hb mb lb b s W wr) (hB : Blk wr wb C 42) (hlo : W.heap.size ≤ wb) : BkS S hb mb lb b s W (wr.setCell ⟨wb, k, none⟩ u) := by
  have hc : Chg (fun j => j = wb) wr (wr.setCell ⟨wb, k, none⟩ u) := Chg.ofStq (Stq.set wb k u wr)
  have hx : Below W.heap.size wr (wr.setCell ⟨wb, k, none⟩ u) := hc.below h.bel.size (fun k e => by rw [e]; exact hlo)
  exact ⟨h.sen.below hx, h.bk.keep hc (Blk.ne_t h.bk.blk hB (by decide)) (fun e => hB.ne_m h.bk.map e.symm), hc.blk h.led (Blk.ne_t h.led hB (by decide)), h.bel.trans hx, h.lo⟩
theorem row_box {wb k L n : Nat} {u v : Value} {xs : List Value} {C : Array Value} (h : wr.ownsRow L 29 4 v n xs) (hB : Blk wr wb C 42) : (wr.setCell ⟨wb, k, none⟩ u).ownsRow L 29 4 v n xs :=
  ownsRow_same h (fun g e => by
    obtain ⟨c1, q1⟩ := ownsRow_type h e
    exact Below.heap_setCell _ _ _ _ (Blk.ne_t q1 hB (by decide)))
end
theorem set_split {es : List OpA} {j : Nat} {e x : OpA} (h : es[j]? = some e) : es.set j x = es.take j ++ x :: es.drop (j + 1) := by
  have hj := (List.getElem?_eq_some_iff.1 h).1
  rw [List.set_eq_take_append_cons_drop, if_pos hj]
theorem split_es {es : List OpA} {j : Nat} {e : OpA} (h : es[j]? = some e) : es = es.take j ++ e :: es.drop (j + 1) := by
  have hj := (List.getElem?_eq_some_iff.1 h).1
  have he : es[j] = e := (List.getElem?_eq_some_iff.1 h).2
  rw [← he, ← List.drop_eq_getElem_cons hj, List.take_append_drop]
theorem set_self {es : List OpA} {j : Nat} {e : OpA} (h : es[j]? = some e) : es.set j e = es := by rw [set_split h]; exact (split_es h).symm
/-- What has been looked at is ended where it is due. -/
def dueTo (now : Int) (j : Nat) (es : List OpA) : List OpA := (es.take j).map (due now) ++ es.drop j
theorem dueTo_zero (now : Int) (es : List OpA) : dueTo now 0 es = es := by simp [dueTo]
theorem dueTo_all (now : Int) (es : List OpA) : dueTo now es.length es = es.map (due now) := by simp [dueTo]
theorem dueTo_length (now : Int) (j : Nat) (es : List OpA) : (dueTo now j es).length = es.length := by simp [dueTo]; omega
theorem dueTo_get {now : Int} {j : Nat} {es : List OpA} {e : OpA} (h : es[j]? = some e) : (dueTo now j es)[j]? = some e := by
  have hj := (List.getElem?_eq_some_iff.1 h).1
  unfold dueTo
  rw [List.getElem?_append_right (by simp; omega)]
  simp only [List.length_map, List.length_take, Nat.min_eq_left (Nat.le_of_lt hj), Nat.sub_self, List.getElem?_drop, Nat.add_zero]
  exact h
theorem dueTo_set {now : Int} {j : Nat} {es : List OpA} {e : OpA} (h : es[j]? = some e) : (dueTo now j es).set j (due now e) = dueTo now (j + 1) es := by
  have hj := (List.getElem?_eq_some_iff.1 h).1
  have he : es[j] = e := (List.getElem?_eq_some_iff.1 h).2
  unfold dueTo
  rw [List.set_append_right _ _ (by simp; omega), List.take_add_one, h]
  simp only [List.length_map, List.length_take, Nat.min_eq_left (Nat.le_of_lt hj), Nat.sub_self, Option.toList_some, List.map_append, List.map_cons, List.map_nil]
  rw [List.drop_eq_getElem_cons hj, List.set_cons_zero, List.append_assoc]
  rfl
/-- The law's state while it looks at what has ended. -/
structure XSt (S : Sens) (hb mb lb : Nat) (b : BS) (s : LS) (es : List OpA) (v : Value) (W : World) (bx : Nat) (C : Array Value) (tv : Value) (ts : List Int) (wr : World) : Prop where
  bk : BkS S hb mb lb b s W wr
  row : wr.ownsRow W.heap.size 29 4 v es.length (flatO es)
  told : wr.ownsRow W.heap.size 3 1 tv ts.length (ts.map I)
  box : Blk wr bx C 29
  ne : ∀ k, v.ownBlock = some k → k ≠ bx
theorem XSt.drewN {S : Sens} {hb mb lb : Nat} {b : BS} {s : LS} {es : List OpA} {v : Value} {W : World} {bx : Nat} {C : Array Value} {tv : Value} {ts : List Int} {wr : World} (h : XSt S hb mb lb b s es v W bx C tv ts wr) (q : Nat) : XSt S hb mb lb b s es v W bx C tv ts (wr.drewN q) :=
  ⟨h.bk.more (below_drewN q (Below.refl _ _)), ownsRow_same h.row (fun _ _ => rfl), ownsRow_same h.told (fun _ _ => rfl), h.box, h.ne⟩
theorem XSt.set {S : Sens} {hb mb lb : Nat} {b : BS} {s : LS} {es : List OpA} {W : World} {bx : Nat} {C : Array Value} {tv : Value} {ts : List Int} {wr : World} {g cap n j : Nat} {e : OpA} (h : XSt S hb mb lb b s es (.slice (some ⟨g, 0, none⟩) n cap) W bx C tv ts wr) (hn : es.length = n) (hj : es[j]? = some e) (t : Bool) :
    XSt S hb mb lb b s (es.set j { e with o := t }) (.slice (some ⟨g, 0, none⟩) n cap) W bx C tv ts (wr.setCell ⟨g, j * 4 + 3, none⟩ (.bool t)) ∧ wr.frozen? ⟨g, j * 4 + 3, none⟩ = false ∧ ∃ u0, wr.cell? ⟨g, j * 4 + 3, none⟩ = some u0 := by
  subst hn
  obtain ⟨h1, h2, h3, h4⟩ := row_set h.bk h.row hj t
  refine ⟨⟨h1, by rw [List.length_set]; exact h2, ownsRow_same h.told (fun k e2 => ?_), (Chg.ofStq (Stq.set g (j * 4 + 3) (.bool t) wr)).blk h.box (fun e2 => h.ne g rfl e2.symm), h.ne⟩, h3, h4⟩
  obtain ⟨c1, q1⟩ := ownsRow_type h.told e2
  obtain ⟨c2, q2⟩ := ownsRow_type h.row (g := g) rfl
  exact Below.heap_setCell _ _ _ _ (Blk.ne_t q1 q2 (by decide))
set_option maxRecDepth 100000 in
set_option maxHeartbeats 12800000 in
theorem holdsOnce_law {S : Sens} (me room : Int) (ao : Option Addr) (N cap : Nat) (os : List OpA) (W : World) (hS : Sen S W.heap.size W) (hN : os.length = N) (hmax : N ≤ maxLen) (hat : 0 < N → ∃ b off, ao = some ⟨b, off, none⟩ ∧ ∀ i o, os[i]? = some o → OpAt W b (off + i * 4) o) :
    Calls Tryd.prog 4 #[.int .i64 me, .int .i64 room, .slice ao N cap] W fun e W' => e = .returned (.bool true) ∧ Below W.heap.size W W' := by
  have hmax' : N ≤ 9223372036854775807 := by simpa [maxLen] using hmax
  have HA : Hid _ := alive_any W hS (Nat.le_refl _)
  have HT : Hid _ := hat
  have HS : Hid _ := hS
  have HL : Hid _ := hN
  clear hat hS hN hmax
  by_cases hbig : (100 : Int) < N
  · go_enter Tryd.func4, Tryd.ntmps4
    go_wp2_with fail
    go_ret
    exact ⟨rfl, Below.refl _ _⟩
  have hsl : ∀ (x : Int) (w : World), Calls Tryd.prog 14 #[.int .i64 x, .int .i64 16] w fun r w' => r = .returned (.int .i64 (x % 16)) ∧ w' = w := fun x w => slot_any x 16 (by decide) (by decide) w
  have hnm := num_any
  have hm := me_mod me
  have hr := me_mod room
  go_enter Tryd.func4, Tryd.ntmps4
  go_wp2_with fail
  refine Calls.mono HA.out ?_
  rintro e w1 ⟨rfl, hb1⟩
  have HB1 : Hid _ := hb1
  have HN : Hid _ := bnew_any (me % 16) (1 + room % 16) w1 (ncode0 hm.1 hm.2 (by omega) (by omega))
  have hwr : IntKind.i64.wrap (1 + room % 16) = 1 + room % 16 := by rw [IntKind.wrap_i64]; omega
  clear hb1
  go_wp2_with (first | (go_at_call 14; refine (hsl _ _).mono ?_; rintro e w' ⟨rfl, hw'⟩; replace hw' := hw'.symm; subst hw'))
  refine Calls.mono HN.out ?_
  rintro e w2 ⟨rfl, hB2, hb2, hz2⟩
  have hk : okAmt 1000 = true := by decide
  have HLN : Hid _ := new_any 1000 w2 hk
  have HB2 : Hid _ := hB2
  have Hb2 : Hid _ := hb2
  have HZ2 : Hid _ := hz2
  clear hB2 hb2 hz2 hk
  go_wp2_with fail
  refine Calls.mono HLN.out ?_
  rintro e w3 ⟨rfl, rfl⟩
  have hgr : Below w2.heap.size w2 (w2.alloc (.cells (LS.mk 0 0 0 1000 0).cs 71)) := (Below.refl _ _).alloc (Nat.le_refl _) _
  have hS3 : BkS S (w1.heap.size + 1) w1.heap.size w2.heap.size ⟨me % 16, 1 + room % 16, 0, []⟩ ⟨0, 0, 0, 1000, 0⟩ W (w2.alloc (.cells (LS.mk 0 0 0 1000 0).cs 71)) := by
    have q1 := HB1.out.size
    have q2 := HZ2.out
    have b2 : Below W.heap.size W w2 := HB1.out.trans (Hb2.out.mono q1)
    have b3 : Below W.heap.size W (w2.alloc (.cells (LS.mk 0 0 0 1000 0).cs 71)) := b2.trans (hgr.mono b2.size)
    exact ⟨HS.out.below b3, HB2.out.keep (Chg.ofBelow (fun _ => False) hgr) (by simp) (by simp), heap_alloc_new w2 _, b3, by omega, by omega, by omega⟩
  have hin := in_any (s := ⟨0, 0, 0, 1000, 0⟩) _ hS3.sen hS3.led ⟨by decide, by decide, by decide, by decide, by decide, by decide⟩ hS3.lo.2.2 600 100 (by decide) (by decide)
  rw [show (LS.mk 0 0 0 1000 0).icode 600 100 = 0 from by decide, show (LS.mk 0 0 0 1000 0).inext 600 100 = ⟨600, 100, 0, 1000, 0⟩ from by kernel_rfl] at hin
  have HIN : Hid _ := hin
  have HS3 : Hid _ := hS3
  clear hgr hS3 hin
  generalize w2.alloc (.cells (LS.mk 0 0 0 1000 0).cs 71) = W3 at *
  go_wp2_with (first | (go_at_call 16; refine (hnm _ _).mono ?_; rintro e w' ⟨rfl, hw'⟩; replace hw' := hw'.symm; subst hw'))
  refine Calls.mono HIN.out ?_
  rintro e w4 ⟨rfl, hl4, hst4⟩
  have hne : w2.heap.size ≠ w1.heap.size + 1 := HS3.out.led.ne_t HS3.out.bk.blk (by decide)
  have hnm2 : w2.heap.size ≠ w1.heap.size := HS3.out.led.ne_m HS3.out.bk.map
  have hS4 : BkS S (w1.heap.size + 1) w1.heap.size w2.heap.size ⟨me % 16, 1 + room % 16, 0, []⟩ ⟨600, 100, 0, 1000, 0⟩ W w4 := HS3.out.step ((Chg.ofStq hst4).mono (fun j _ e => Or.inr (Or.inr e))) (HS3.out.bk.keep (Chg.ofStq hst4) (fun e => hne e.symm) (fun e => hnm2 e.symm)) hl4
  have HR0 : Hid _ := (show ORel S (w1.heap.size + 1) w1.heap.size w2.heap.size (me % 16) 0 (.slice none 0 0) W w4 from ⟨_, _, [], ⟨hS4, ⟨⟨hm.1, hm.2, by show 1 + room % 16 ≤ 16; omega, by show (0 : Int) ≤ 1 + room % 16; omega, Int.le_refl _, List.Pairwise.nil, fun x hx => by cases hx⟩, ⟨by decide, by decide, by decide, by decide, by decide, by decide⟩, rfl, (fun x hx => by cases hx), List.Pairwise.nil, rfl, by decide, rfl, rfl⟩, World.ownsRow_nil _ _ _ _⟩, Nat.le_refl _, rfl⟩)
  clear hl4 hst4 hS4 hne hnm2 HS3 HIN HLN HB2 Hb2 HZ2 HN HB1 HA hr hwr
  generalize w1.heap.size + 1 = hb at *
  generalize w1.heap.size = mb at *
  generalize w2.heap.size = lb at *
  obtain ⟨m, hmm⟩ : ∃ m, m = me % 16 := ⟨_, rfl⟩
  rw [← hmm] at HR0 hm
  have HMM : Hid _ := hmm
  clear hmm
  go_wp2_with fail
  go_loopw [12, 13] (fun all i wr => ∃ k : Nat, k ≤ N ∧ i = .int .i64 k ∧ ORel S hb mb lb m k all W wr) (fun _ i _ => N - (intOf i).toNat)
  case atStart => exact ⟨0, Nat.zero_le _, rfl, HR0.out⟩
  case round =>
    obtain ⟨k, hk, rfl, b, s, es, hO, hel, hbm⟩ := hrel
    clear HR0
    by_cases hlt : k < N
    · obtain ⟨⟨K, A, B, ob⟩, ho⟩ : ∃ o, os[k]? = some o := ⟨os[k]'(by rw [HL.out]; exact hlt), List.getElem?_eq_getElem _⟩
      obtain ⟨g, off, rfl, hcell⟩ := HT.out (by omega)
      obtain ⟨d0, d1, d2, d3, x1, x2⟩ := (hcell k _ ho).keep hO.bk.bel
      simp only at d0 d1 d2 d3 x1 x2
      obtain ⟨vao, vcap, hvv, _⟩ := own_slice hO.row
      subst hvv
      have hBx := hO.box ⟨K, A, B, ob⟩
      have hk0 := hBx.c0
      have hk1 := hBx.c1
      have hk2 := hBx.c2
      simp only at hBx hk0 hk1 hk2
      have HBX : Hid _ := hBx
      have HEL : Hid _ := hel
      have HBM : Hid _ := hbm
      clear ho hcell hO hBx hel hbm
      by_cases h1 : K = 1
      · as_aux_lemma =>
          subst h1
          have hOI0 := HBX.out.st.oi
          have hho := hold_any (b := b) (s := s) _ HBX.out.st.bk.sen HBX.out.st.bk.bk hOI0.bok HBX.out.st.bk.led hOI0.sok HBX.out.st.bk.lo.2.2 (by have := hOI0.mad; have := HEL.out; omega) A B
          by_cases hcd : b.hcode s A = 0
          · obtain ⟨ha1, hnn, hOI⟩ := hOI0.hold A B hcd
            have hnm16 : ((b.made + 1) * 16 + b.me) % 16 = m := by have := (num_mod (k := b.made + 1) hOI0.bok.me0 hOI0.bok.me1).1; rw [this]; exact HBM.out
            have hnew : ∀ e ∈ es, ¬ e.a = (b.made + 1) * 16 + b.me := fun e he h0 => by
              have := (List.pairwise_append.1 hOI.ord).2.2 e he _ (List.mem_singleton.2 rfl)
              simp only at this
              omega
            rw [hnn, hcd] at hho
            have hbme : (b.hnext s A B).me = m := by rw [← HBM.out]; unfold BS.hnext; cases b.hcode s A == 0 <;> rfl
            generalize (b.made + 1) * 16 + b.me = n at *
            have hof := of_any n
            rw [hnm16] at hof
            have hsl2 := hsl me
            rw [← HMM.out] at hsl2
            have HHO : Hid _ := hho
            have HOI : Hid _ := hOI
            have HNEW : Hid _ := hnew
            have HBME : Hid _ := hbme
            have hA1 : ¬ A < 1 := by omega
            clear hho hOI hnew hOI0 hnn hbme hcd hnm16
            go_wp2_with fail
            refine Calls.mono HHO.out ?_
            rintro e w4 ⟨rfl, hB4, hl4, hc4⟩
            obtain ⟨hK4, hr4, hb4⟩ := HBX.out.held hc4 hB4 hl4
            have j1 : w4.cell? ⟨wr.heap.size, 1, none⟩ = some (.int .i64 A) := hb4.cell 1
            have j2 : w4.cell? ⟨wr.heap.size, 2, none⟩ = some (.int .i64 B) := hb4.cell 2
            have HK4 : Hid _ := hK4
            have HR4 : Hid _ := hr4
            clear hB4 hl4 hc4 hK4 hr4 hb4 HBX HHO hk0 hk1 hk2 d0 d1 d2 d3
            generalize wr.heap.size = bx at *
            generalize b.hnext s A B = b4 at *
            generalize b.hlnext s A = s4 at *
            go_wp2_with (first | (go_at_call 16; refine (hnm _ _).mono ?_; rintro e w' ⟨rfl, hw'⟩; replace hw' := hw'.symm; subst hw') | (go_at_call 19; refine (hof _).mono ?_; rintro e w' ⟨rfl, hw'⟩; replace hw' := hw'.symm; subst hw') | (go_at_call 14; refine (hsl2 _).mono ?_; rintro e w' ⟨rfl, hw'⟩; replace hw' := hw'.symm; subst hw'))
            have hel2 : es.length ≤ 101 := by have := HEL.out; omega
            go_loopw [17] (fun j wr' => ∃ q : Nat, q ≤ es.length ∧ j = .int .i64 q ∧ wr' = w4) (fun j _ => es.length - (intOf j).toNat)
            case atStart => exact ⟨0, Nat.zero_le _, rfl, rfl⟩
            case round =>
              obtain ⟨q, hq, rfl, hww⟩ := hrel
              subst hww
              by_cases hql : q < es.length
              · obtain ⟨⟨ek, ea, eb, eo⟩, he⟩ : ∃ e, es[q]? = some e := ⟨es[q]'hql, List.getElem?_eq_getElem _⟩
                obtain ⟨gr, cr, hv, y0, y1, y2, y3⟩ := row_cells HR4.out he
                have hne := HNEW.out _ (List.mem_of_getElem? he)
                simp only at y0 y1 y2 y3 hne
                simp only [Value.slice.injEq] at hv
                obtain ⟨rfl, _, rfl⟩ := hv
                clear he
                go_wp2_with fail
                go_roundw
                case rel => exact ⟨q + 1, by omega, by go_num, by first | rfl | trivial⟩
                case measure => simp [intOf]; omega
              · have hlow := HK4.out.bel.size
                have hlen : es.length + 1 ≤ 100000 := by omega
                go_wp2_with (at_builtin; refine Mk.out ?_)
                refine Mk.mk ?_
                refine wpList_appO rfl _ _ rfl W.heap.size es.length (.slice vao es.length vcap) es rfl HR4.out ⟨B, n, A, false⟩ rfl (by first | rfl | simp) hlen hlow ?_
                intro v5 w5 ho5 hc5
                obtain ⟨vao5, vcap5, hv5, _⟩ := own_slice ho5
                have hbk5 := bks_row HK4.out HR4.out hc5
                have HC : Hid _ := (show OSt S hb mb lb b4 s4 (es ++ [⟨B, n, A, false⟩]) v5 W w5 from ⟨hbk5, HOI.out, by simpa using ho5⟩)
                have HEL1 : Hid _ := (show (es ++ [(⟨B, n, A, false⟩ : OpA)]).length ≤ k + 1 from by have := HEL.out; simp; omega)
                have HBM1 : Hid _ := HBME.out
                have hv6 : v5 = .slice vao5 (es ++ [(⟨B, n, A, false⟩ : OpA)]).length vcap5 := by rw [hv5]; simp
                subst hv6
                clear ho5 hc5 hv5 hbk5 HOI HR4 HK4 HNEW hlen hlow j1 j2
                generalize es ++ [(⟨B, n, A, false⟩ : OpA)] = es5 at *
                go_wp2_with fail
                skip
                have hel1 : (es5).length ≤ 101 := by have := HEL1.out; omega
                go_loopw [27, 28, 29] (fun sm cn j wr' => ∃ q : Nat, q ≤ (es5).length ∧ j = .int .i64 q ∧ sm = .int .i64 (sumH (liv ((es5).take q))) ∧ cn = .int .i64 ((liv ((es5).take q)).length : Nat) ∧ wr' = w5) (fun _ _ j _ => (es5).length - (intOf j).toNat)
                case atStart => exact ⟨0, Nat.zero_le _, rfl, by simp [liv, sumH], by simp [liv], rfl⟩
                case round =>
                  obtain ⟨q, hq, rfl, rfl, rfl, rfl⟩ := hrel
                  by_cases hql : q < (es5).length
                  · obtain ⟨⟨ek, ea, eb, eo⟩, he⟩ : ∃ e, (es5)[q]? = some e := ⟨(es5)[q]'hql, List.getElem?_eq_getElem _⟩
                    obtain ⟨gr, cr, hv, y0, y1, y2, y3⟩ := HC.out.cells he
                    have hlv := liv_take he
                    have hs1 := sum_take HC.out.oi q
                    have hs2 := sum_take HC.out.oi (q + 1)
                    simp only at y0 y1 y2 y3
                    simp only [Value.slice.injEq] at hv
                    obtain ⟨rfl, _, rfl⟩ := hv
                    cases eo
                    · rw [liv_yes _ _ rfl] at hlv
                      have hsm : sumH (liv ((es5).take (q + 1))) = sumH (liv ((es5).take q)) + eb := by rw [hlv, sumH_append]; simp [sumH, liv, toHd]
                      have hcn : (liv ((es5).take (q + 1))).length = (liv ((es5).take q)).length + 1 := by rw [hlv]; simp [liv]
                      have hll : (liv ((es5).take q)).length ≤ 100 := by have := List.length_filter_le (fun e : OpA => !e.o) ((es5).take q); have := List.length_take_le q (es5); have := HEL1.out; simp only [liv, List.length_map]; omega
                      have hwa : IntKind.i64.wrap (sumH (liv ((es5).take q)) + eb) = sumH (liv ((es5).take q)) + eb := by rw [IntKind.wrap_i64]; omega
                      have HSM : Hid _ := hsm
                      have HCN : Hid _ := hcn
                      clear hlv hs1 hs2 hsm hcn he
                      go_wp2_with fail
                      go_roundw
                      case rel => exact ⟨q + 1, by omega, by go_num, by rw [HSM.out], by rw [HCN.out]; go_num, by first | rfl | trivial⟩
                      case measure => simp [intOf]; omega
                    · rw [liv_no _ _ rfl] at hlv
                      have hlv2 : liv ((es5).take (q + 1)) = liv ((es5).take q) := by rw [hlv]; simp [liv]
                      have HLV : Hid _ := hlv2
                      clear hlv hlv2 hs1 hs2 he
                      go_wp2_with fail
                      go_roundw
                      case rel => exact ⟨q + 1, by omega, by go_num, by rw [HLV.out], by rw [HLV.out], by first | rfl | trivial⟩
                      case measure => simp [intOf]; omega
                  · have hqq : q = (es5).length := by omega
                    have hLq : (b4).L = liv ((es5).take q) := by rw [List.take_of_length_le (by omega)]; exact HC.out.oi.L
                    have f1 : sumH (b4).L = sumH (liv ((es5).take q)) := by rw [hLq]
                    have f2 : (b4).L.length = (liv ((es5).take q)).length := by rw [hLq]
                    have f3 : (s4).h = sumH (liv ((es5).take q)) := HC.out.oi.held.trans f1
                    have f4 : (s4).d + (s4).u + sumH (liv ((es5).take q)) = 700 := by rw [← f3]; exact HC.out.oi.tot
                    have g1 := HC.out.oi.sok.d0
                    have g2 := HC.out.oi.sok.u0
                    have g3 : 0 ≤ sumH (liv ((es5).take q)) := (sum_take HC.out.oi q).1
                    have F1 : Hid _ := f1
                    have F2 : Hid _ := f2
                    have F3 : Hid _ := f3
                    have HRI : Hid _ := rights_any _ HC.out.bk.led
                    clear hLq f1 f2 f3
                    generalize sumH (liv ((es5).take q)) = sm at *
                    generalize (liv ((es5).take q)).length = cn at *
                    go_wp2_with fail
                    refine Calls.mono HRI.out ?_
                    rintro e w5 ⟨rfl, hb5⟩
                    have hgr : Below w5.heap.size w5 (w5.alloc (.cells #[.int .i64 (s4).d, .int .i64 (s4).u] 42)) := (Below.refl _ _).alloc (Nat.le_refl _) _
                    have hO5 := (HC.out.more hb5).more hgr
                    have hbx : Blk (w5.alloc (.cells #[.int .i64 (s4).d, .int .i64 (s4).u] 42)) w5.heap.size #[.int .i64 (s4).d, .int .i64 (s4).u] 42 := heap_alloc_new w5 _
                    have hsu := sum_any _ hO5.bk.bk hO5.oi.bok
                    rw [F1.out] at hsu
                    have HSU : Hid _ := hsu
                    have HO5 : Hid _ := hO5
                    have HBX5 : Hid _ := hbx
                    clear hb5 hgr hO5 hbx hsu HRI
                    go_wp2_with fail
                    refine Calls.mono HSU.out ?_
                    rintro e w7 ⟨rfl, hb7⟩
                    have hO7 := HO5.out.more hb7
                    have hbx7 := Blk.below HBX5.out hb7 (Blk.lt HBX5.out)
                    have hhe := held_any w7 hO7.bk.led
                    rw [F3.out] at hhe
                    have HHE : Hid _ := hhe
                    have HNU : Hid _ := numbers_any w7 hO7.bk.bk hO7.oi.bok (by have := hO7.oi.mad; omega)
                    have HO7 : Hid _ := hO7
                    have HBX7 : Hid _ := hbx7
                    clear hb7 hO7 hbx7 hhe HSU HO5 HBX5
                    go_wp2_with fail
                    refine Calls.mono HHE.out ?_
                    rintro e w8 ⟨rfl, hw8⟩
                    replace hw8 := hw8.symm
                    subst hw8
                    go_wp2_with fail
                    refine Calls.mono HNU.out ?_
                    rintro e w9 ⟨v9, rfl, ho9, hb9⟩
                    rw [F2.out] at ho9
                    obtain ⟨ao9, c9, hv9, _⟩ := own_slice ho9
                    subst hv9
                    have hO9 := HO7.out.more hb9
                    have hbx9 := Blk.below HBX7.out hb9 (Blk.lt HBX7.out)
                    have z0 : w9.cell? ⟨w5.heap.size, 0, none⟩ = some (.int .i64 (s4).d) := Blk.cell hbx9 0
                    have z1 : w9.cell? ⟨w5.heap.size, 1, none⟩ = some (.int .i64 (s4).u) := Blk.cell hbx9 1
                    have hw1 : IntKind.i64.wrap ((s4).d + (s4).u) = (s4).d + (s4).u := by rw [IntKind.wrap_i64]; omega
                    have hw2 : IntKind.i64.wrap ((s4).d + (s4).u + sm) = 700 := by rw [f4]; rfl
                    have HN : Hid _ := (show ORel S hb mb lb m (k + 1) (.slice vao5 es5.length vcap5) W w9 from ⟨_, _, _, hO9, HEL1.out, HBM1.out⟩)
                    clear ho9 hb9 hO9 hbx9 HHE HNU HO7 HBX7
                    go_wp2_with fail
                    go_roundw
                    case rel => exact ⟨k + 1, by omega, by go_num, HN.out⟩
                    case measure => simp [intOf]; omega
          · obtain ⟨e1, e2, e3⟩ := hOI0.hold_no A B hcd
            rw [e1, e2, e3] at hho
            have HHO : Hid _ := hho
            generalize b.hcode s A = cd at *
            clear hho hOI0 e1 e2 e3
            go_wp2_with fail
            refine Calls.mono HHO.out ?_
            rintro e w4 ⟨rfl, hB4, hl4, hc4⟩
            have HN : Hid _ := (show ORel S hb mb lb m (k + 1) (.slice vao es.length vcap) W w4 from ⟨_, _, _, (HBX.out.step hc4 hB4 hl4 HBX.out.st.oi).st, by have := HEL.out; omega, HBM.out⟩)
            clear hB4 hl4 hc4 HBX HHO
            go_wp2_with (first | (go_at_call 16; refine (hnm _ _).mono ?_; rintro e w' ⟨rfl, hw'⟩; replace hw' := hw'.symm; subst hw'))
            go_roundw
            case rel => exact ⟨k + 1, by omega, by go_num, HN.out⟩
            case measure => simp [intOf]; omega
      by_cases h4 : K = 4
      · as_aux_lemma =>
          subst h4
          by_cases hz : es.length = 0
          · obtain rfl : es = [] := List.length_eq_zero_iff.1 hz
            have HN : Hid (ORel S hb mb lb m (k + 1) (.slice vao 0 vcap) W (wr.alloc (.cells #[.int .i64 4, .int .i64 A, .int .i64 B, .bool ob] 29))) := ⟨b, s, [], HBX.out.st, Nat.zero_le _, HBM.out⟩
            clear HBX hz
            go_wp2_with fail
            go_roundw
            case rel => exact ⟨k + 1, by omega, by go_num, HN.out⟩
            case measure => simp [intOf]; omega
          · have hzp : 0 < es.length := by omega
            have hsl2 := slot_any A es.length hzp (by have := HEL.out; omega)
            go_wp2_with fail
            refine (hsl2 _).mono ?_
            rintro e w' ⟨rfl, hw'⟩
            replace hw' := hw'.symm
            subst hw'
            clear hsl2 d0 d1 d2 d3 hk0 hk1 hk2
            generalize wr.alloc (.cells #[.int .i64 4, .int .i64 A, .int .i64 B, .bool ob] 29) = X at *
            generalize wr.heap.size = bx at *
            have hem := Int.emod_nonneg A (show (es.length : Int) ≠ 0 by omega)
            have hel := Int.emod_lt_of_pos A (show (0 : Int) < es.length by omega)
            obtain ⟨j, hjA⟩ : ∃ j : Nat, A % (es.length : Int) = j := ⟨(A % (es.length : Int)).toNat, by omega⟩
            rw [hjA] at hel ⊢
            have hj : j < es.length := by omega
            clear hem hel hjA hz
            obtain ⟨⟨ek, ea, eb, eo⟩, he⟩ : ∃ e, es[j]? = some e := ⟨es[j]'hj, List.getElem?_eq_getElem _⟩
            have hsp := split_es he
            have hnum := HBX.out.st.oi.num _ (List.mem_of_getElem? he)
            have hmad := HBX.out.st.oi.mad
            have hel0 := HEL.out
            simp only at hnum
            have hwa : IntKind.i64.wrap ea = ea := by rw [IntKind.wrap_i64]; omega
            have HSP : Hid _ := hsp
            have HRI : Hid _ := rights_any X HBX.out.st.bk.led
            clear hsp hnum hmad hel0
            go_wp2_with fail
            refine Calls.mono HRI.out ?_
            rintro e w1 ⟨rfl, hb1⟩
            have hgr : Below w1.heap.size w1 (w1.alloc (.cells #[.int .i64 s.d, .int .i64 s.u] 42)) := (Below.refl _ _).alloc (Nat.le_refl _) _
            have hO1 := (HBX.out.more hb1).more hgr
            have hbw : Blk (w1.alloc (.cells #[.int .i64 s.d, .int .i64 s.u] 42)) w1.heap.size #[.int .i64 s.d, .int .i64 s.u] 42 := heap_alloc_new w1 _
            obtain ⟨gr, cr, hv, z0, z1, z2, z3⟩ := hO1.st.cells he
            simp only at z0 z1 z2 z3
            simp only [Value.slice.injEq] at hv
            obtain ⟨rfl, _, rfl⟩ := hv
            have k0 : World.cell? (w1.alloc (.cells #[.int .i64 s.d, .int .i64 s.u] 42)) ⟨bx, 0, none⟩ = some (.int .i64 4) := hO1.c0
            have hcm := commit_any _ hO1.st.bk.sen hO1.st.bk.bk hO1.st.bk.led hO1.st.oi.sok hO1.st.bk.lo.2.2 ea hwa
            have HO1 : Hid _ := hO1
            have HBW : Hid (Blk _ _ _ _) := hbw
            have HWB : Hid (W.heap.size ≤ w1.heap.size) := (by have := (HBX.out.more hb1).st.low; exact this)
            clear hO1 hbw hgr hb1 HBX HRI
            have hsp := HSP.out
            clear HSP
            cases eo
            · obtain ⟨q1, q2, q3, q4, q5⟩ := HO1.out.st.oi.end_yes hsp rfl
              have hOI := q5 1 (by decide)
              rw [q1, q2, q4] at hcm
              rw [q4, ← set_split he] at hOI
              simp only at hcm hOI
              have hrng := HO1.out.st.oi.tot
              have hsk := HO1.out.st.oi.sok
              have hok2 := hOI.sok
              clear q1 q2 q3 q4 q5
              have HCM : Hid _ := hcm
              have HOI : Hid _ := hOI
              have hd0 := hsk.d0
              have hu0 := hsk.u0
              have hsum : s.d + s.u + s.h = 700 := HO1.out.st.oi.tot
              have hh0 : 0 ≤ s.h := by have := (sum_take HO1.out.st.oi es.length).1; rw [List.take_of_length_le (Nat.le_refl _), ← HO1.out.st.oi.L, ← HO1.out.st.oi.held] at this; exact this
              have hebr : 0 ≤ eb ∧ eb ≤ 700 := by have h1 := hok2.d0; have h2 := hok2.u0; have h3 := hOI.tot; have h4 := (sum_take hOI (es.set j ⟨ek, ea, eb, true⟩).length).1; rw [List.take_of_length_le (Nat.le_refl _), ← hOI.L, ← hOI.held] at h4; have h5 := HO1.out.st.oi.bd (toHd ⟨ek, ea, eb, false⟩) (by rw [HO1.out.st.oi.L, hsp, liv_append, liv_yes _ _ rfl]; simp); simp only [toHd] at h3 h4 h5; omega
              clear hcm hOI hsk hsp
              go_wp2_with fail
              generalize w1.alloc (.cells #[.int .i64 s.d, .int .i64 s.u] 42) = X1' at *
              generalize w1.heap.size = wb at *
              refine Calls.mono HCM.out ?_
              rintro e w2 ⟨rfl, hB2, hl2, hc2⟩
              obtain ⟨hK2, hr2, hb2⟩ := HO1.out.held (hc2.mono (fun j _ e => Or.inr e)) hB2 hl2
              have hbw2 : Blk w2 wb #[.int .i64 s.d, .int .i64 s.u] 42 := hc2.blk HBW.out (fun e => by rcases e with e | e; exact (Blk.ne_m HBW.out HO1.out.st.bk.bk.map) e; exact (Blk.ne_t HBW.out HO1.out.st.bk.led (by decide)) e)
              have xx0 : w2.cell? ⟨wb, 0, none⟩ = some (.int .i64 s.d) := hbw2.cell 0
              have xx1 : w2.cell? ⟨wb, 1, none⟩ = some (.int .i64 s.u) := hbw2.cell 1
              have fz := hbw2.frozen 1
              have HK3 : Hid (BkS S hb mb lb (b.enext s ea) { s with u := s.u + eb, h := s.h - eb } W (w2.setCell ⟨wb, 1, none⟩ (.int .i64 (s.u + eb)))) := bks_box hK2 hbw2 HWB.out
              have HR3 : Hid (World.ownsRow (w2.setCell ⟨wb, 1, none⟩ (.int .i64 (s.u + eb))) W.heap.size 29 4 (.slice (some ⟨gr, 0, none⟩) es.length vcap) es.length (flatO es)) := row_box hr2 hbw2
              have hb3 := hbw2.set 1 (.int .i64 (s.u + eb))
              have X0 : World.cell? (w2.setCell ⟨wb, 1, none⟩ (.int .i64 (s.u + eb))) ⟨wb, 0, none⟩ = some (.int .i64 s.d) := hb3.cell 0
              have X1 : World.cell? (w2.setCell ⟨wb, 1, none⟩ (.int .i64 (s.u + eb))) ⟨wb, 1, none⟩ = some (.int .i64 (s.u + eb)) := hb3.cell 1
              obtain ⟨gq, cq, hv3, Xa, Xb, X2, X3⟩ := row_cells HR3.out he
              cases hv3
              simp only at X2 X3
              clear Xa Xb
              clear hB2 hl2 hc2 hK2 hr2 hb2 hbw2 hb3 HCM HO1 HBW
              go_wp2_with fail
              generalize w2.setCell ⟨wb, 1, none⟩ (.int .i64 (s.u + eb)) = w3 at *
              have x0 := X0
              have x1 := X1
              have x2 := X2
              have x3 := X3
              rename_i K hK
              try rw [show ∀ a : Act, a.put none undef = a from fun _ => rfl]
              refine reg40_yes (s2 := { s with u := s.u + eb, h := s.h - eb }) (by kernel_rfl) (Fr.ofLit _ rfl) rfl rfl rfl rfl rfl rfl hj x2 x3 x0 x1 HK3.out.led ?_
              intro w5 hb5
              refine hK _ _ ?_
              simp only [Act.put, List.setIfInBounds_toArray, List.set_cons_succ, List.set_cons_zero]
              have hK5 := HK3.out.more ((Below.drew (Below.refl w3.heap.size w3)).trans hb5)
              have hr5 := ownsRow_same HR3.out (w' := w5) (fun g e => hb5.block g (ownsRow_lt HR3.out e).2)
              obtain ⟨K6, R6, fz6, u0, cz6⟩ := row_set hK5 hr5 he true
              have HC : Hid (OSt S hb mb lb (b.enext s ea) { s with u := s.u + eb, h := s.h - eb } (es.set j ⟨ek, ea, eb, true⟩) (.slice (some ⟨gr, 0, none⟩) es.length vcap) W (w5.setCell ⟨gr, j * 4 + 3, none⟩ (.bool true))) := ⟨K6, HOI.out, by rw [List.length_set]; exact R6⟩
              have HEL1 : Hid ((es.set j ⟨ek, ea, eb, true⟩).length ≤ k + 1) := (show (es.set j ⟨ek, ea, eb, true⟩).length ≤ k + 1 from by rw [List.length_set]; have := HEL.out; omega)
              have HBM1 : Hid (BS.me (b.enext s ea) = m) := (show BS.me (b.enext s ea) = m from by rw [← HBM.out]; unfold BS.enext; cases b.ecode s ea == 0 <;> rfl)
              have hls : es.length = (es.set j ⟨ek, ea, eb, true⟩).length := by rw [List.length_set]
              clear hK5 hr5 K6 R6 hb5 HK3 HR3 HOI X0 X1 X2 X3 x0 x1 x2 x3 fz xx0 xx1
              rw [hls] at HC ⊢
              generalize (es.set j ⟨ek, ea, eb, true⟩) = es6 at *
              generalize (b.enext s ea) = b6 at *
              obtain ⟨s6, hs6⟩ : ∃ s6, s6 = ({ s with u := s.u + eb, h := s.h - eb } : LS) := ⟨_, rfl⟩
              rw [← hs6] at HC
              clear hs6
              as_aux_lemma =>
                go_wp2_with fail
                generalize w5.setCell ⟨gr, j * 4 + 3, none⟩ (.bool true) = X6 at *
                have hel1 : (es6).length ≤ 101 := by have := HEL1.out; omega
                go_loopw [27, 28, 29] (fun sm cn j wr' => ∃ q : Nat, q ≤ (es6).length ∧ j = .int .i64 q ∧ sm = .int .i64 (sumH (liv ((es6).take q))) ∧ cn = .int .i64 ((liv ((es6).take q)).length : Nat) ∧ wr' = X6) (fun _ _ j _ => (es6).length - (intOf j).toNat)
                case atStart => exact ⟨0, Nat.zero_le _, rfl, by simp [liv, sumH], by simp [liv], rfl⟩
                case round =>
                  obtain ⟨q, hq, rfl, rfl, rfl, rfl⟩ := hrel
                  by_cases hql : q < (es6).length
                  · obtain ⟨⟨ek, ea, eb, eo⟩, he⟩ : ∃ e, (es6)[q]? = some e := ⟨(es6)[q]'hql, List.getElem?_eq_getElem _⟩
                    obtain ⟨gr, cr, hv, y0, y1, y2, y3⟩ := HC.out.cells he
                    have hlv := liv_take he
                    have hs1 := sum_take HC.out.oi q
                    have hs2 := sum_take HC.out.oi (q + 1)
                    simp only at y0 y1 y2 y3
                    cases hv
                    cases eo
                    · rw [liv_yes _ _ rfl] at hlv
                      have hsm : sumH (liv ((es6).take (q + 1))) = sumH (liv ((es6).take q)) + eb := by rw [hlv, sumH_append]; simp [sumH, liv, toHd]
                      have hcn : (liv ((es6).take (q + 1))).length = (liv ((es6).take q)).length + 1 := by rw [hlv]; simp [liv]
                      have hll : (liv ((es6).take q)).length ≤ 100 := by have := List.length_filter_le (fun e : OpA => !e.o) ((es6).take q); have := List.length_take_le q (es6); have := HEL1.out; simp only [liv, List.length_map]; omega
                      have hwa : IntKind.i64.wrap (sumH (liv ((es6).take q)) + eb) = sumH (liv ((es6).take q)) + eb := by rw [IntKind.wrap_i64]; omega
                      have HSM : Hid _ := hsm
                      have HCN : Hid _ := hcn
                      clear hlv hs1 hs2 hsm hcn he
                      go_wp2_with fail
                      go_roundw
                      case rel => exact ⟨q + 1, by omega, by go_num, by rw [HSM.out], by rw [HCN.out]; go_num, by first | rfl | trivial⟩
                      case measure => simp [intOf]; omega
                    · rw [liv_no _ _ rfl] at hlv
                      have hlv2 : liv ((es6).take (q + 1)) = liv ((es6).take q) := by rw [hlv]; simp [liv]
                      have HLV : Hid _ := hlv2
                      clear hlv hlv2 hs1 hs2 he
                      go_wp2_with fail
                      go_roundw
                      case rel => exact ⟨q + 1, by omega, by go_num, by rw [HLV.out], by rw [HLV.out], by first | rfl | trivial⟩
                      case measure => simp [intOf]; omega
                  · have hqq : q = (es6).length := by omega
                    have hLq : (b6).L = liv ((es6).take q) := by rw [List.take_of_length_le (by omega)]; exact HC.out.oi.L
                    have f1 : sumH (b6).L = sumH (liv ((es6).take q)) := by rw [hLq]
                    have f2 : (b6).L.length = (liv ((es6).take q)).length := by rw [hLq]
                    have f3 : (s6).h = sumH (liv ((es6).take q)) := HC.out.oi.held.trans f1
                    have f4 : (s6).d + (s6).u + sumH (liv ((es6).take q)) = 700 := by rw [← f3]; exact HC.out.oi.tot
                    have g1 := HC.out.oi.sok.d0
                    have g2 := HC.out.oi.sok.u0
                    have g3 : 0 ≤ sumH (liv ((es6).take q)) := (sum_take HC.out.oi q).1
                    have F1 : Hid _ := f1
                    have F2 : Hid _ := f2
                    have F3 : Hid _ := f3
                    have HRI : Hid _ := rights_any _ HC.out.bk.led
                    clear hLq f1 f2 f3
                    generalize sumH (liv ((es6).take q)) = sm at *
                    generalize (liv ((es6).take q)).length = cn at *
                    go_wp2_with fail
                    refine Calls.mono HRI.out ?_
                    rintro e w5 ⟨rfl, hb5⟩
                    have hgr : Below w5.heap.size w5 (w5.alloc (.cells #[.int .i64 (s6).d, .int .i64 (s6).u] 42)) := (Below.refl _ _).alloc (Nat.le_refl _) _
                    have hO5 := (HC.out.more hb5).more hgr
                    have hbx : Blk (w5.alloc (.cells #[.int .i64 (s6).d, .int .i64 (s6).u] 42)) w5.heap.size #[.int .i64 (s6).d, .int .i64 (s6).u] 42 := heap_alloc_new w5 _
                    have hsu := sum_any _ hO5.bk.bk hO5.oi.bok
                    rw [F1.out] at hsu
                    have HSU : Hid _ := hsu
                    have HO5 : Hid _ := hO5
                    have HBX5 : Hid _ := hbx
                    clear hb5 hgr hO5 hbx hsu HRI
                    go_wp2_with fail
                    refine Calls.mono HSU.out ?_
                    rintro e w7 ⟨rfl, hb7⟩
                    have hO7 := HO5.out.more hb7
                    have hbx7 := Blk.below HBX5.out hb7 (Blk.lt HBX5.out)
                    have hhe := held_any w7 hO7.bk.led
                    rw [F3.out] at hhe
                    have HHE : Hid _ := hhe
                    have HNU : Hid _ := numbers_any w7 hO7.bk.bk hO7.oi.bok (by have := hO7.oi.mad; omega)
                    have HO7 : Hid _ := hO7
                    have HBX7 : Hid _ := hbx7
                    clear hb7 hO7 hbx7 hhe HSU HO5 HBX5
                    go_wp2_with fail
                    refine Calls.mono HHE.out ?_
                    rintro e w8 ⟨rfl, hw8⟩
                    replace hw8 := hw8.symm
                    subst hw8
                    go_wp2_with fail
                    refine Calls.mono HNU.out ?_
                    rintro e w9 ⟨v9, rfl, ho9, hb9⟩
                    rw [F2.out] at ho9
                    obtain ⟨ao9, c9, hv9, _⟩ := own_slice ho9
                    subst hv9
                    have hO9 := HO7.out.more hb9
                    have hbx9 := Blk.below HBX7.out hb9 (Blk.lt HBX7.out)
                    have z0 : w9.cell? ⟨w5.heap.size, 0, none⟩ = some (.int .i64 (s6).d) := Blk.cell hbx9 0
                    have z1 : w9.cell? ⟨w5.heap.size, 1, none⟩ = some (.int .i64 (s6).u) := Blk.cell hbx9 1
                    have hw1 : IntKind.i64.wrap ((s6).d + (s6).u) = (s6).d + (s6).u := by rw [IntKind.wrap_i64]; omega
                    have hw2 : IntKind.i64.wrap ((s6).d + (s6).u + sm) = 700 := by rw [f4]; rfl
                    have HN : Hid _ := (show ORel S hb mb lb m (k + 1) (.slice (some ⟨gr, 0, none⟩) es6.length vcap) W w9 from ⟨_, _, _, hO9, HEL1.out, HBM1.out⟩)
                    clear ho9 hb9 hO9 hbx9 HHE HNU HO7 HBX7
                    go_wp2_with fail
                    go_roundw
                    case rel => exact ⟨k + 1, by omega, by go_num, HN.out⟩
                    case measure => simp [intOf]; omega
            · obtain ⟨q1, q2, q3, q4⟩ := HO1.out.st.oi.end_no hsp rfl 1
              have hOI := HO1.out.st.oi
              rw [q1, q2, q3, q4] at hcm
              have HSET : Hid _ := set_self he
              have hsk := HO1.out.st.oi.sok
              clear q1 q2 q3 q4
              have HCM : Hid _ := hcm
              have HOI : Hid _ := hOI
              have hd0 := hsk.d0
              have hu0 := hsk.u0
              have hsum : s.d + s.u + s.h = 700 := HO1.out.st.oi.tot
              have hh0 : 0 ≤ s.h := by have := (sum_take HO1.out.st.oi es.length).1; rw [List.take_of_length_le (Nat.le_refl _), ← HO1.out.st.oi.L, ← HO1.out.st.oi.held] at this; exact this
              skip
              clear hcm hOI hsk hsp
              go_wp2_with fail
              generalize w1.alloc (.cells #[.int .i64 s.d, .int .i64 s.u] 42) = X1' at *
              generalize w1.heap.size = wb at *
              refine Calls.mono HCM.out ?_
              rintro e w2 ⟨rfl, hB2, hl2, hc2⟩
              obtain ⟨hK2, hr2, hb2⟩ := HO1.out.held (hc2.mono (fun j _ e => Or.inr e)) hB2 hl2
              have hbw2 : Blk w2 wb #[.int .i64 s.d, .int .i64 s.u] 42 := hc2.blk HBW.out (fun e => by rcases e with e | e; exact (Blk.ne_m HBW.out HO1.out.st.bk.bk.map) e; exact (Blk.ne_t HBW.out HO1.out.st.bk.led (by decide)) e)
              have xx0 : w2.cell? ⟨wb, 0, none⟩ = some (.int .i64 s.d) := hbw2.cell 0
              have xx1 : w2.cell? ⟨wb, 1, none⟩ = some (.int .i64 s.u) := hbw2.cell 1
              have fz := hbw2.frozen 1
              have HK3 : Hid (BkS S hb mb lb b s W (w2.setCell ⟨wb, 1, none⟩ (.int .i64 s.u))) := bks_box hK2 hbw2 HWB.out
              have HR3 : Hid (World.ownsRow (w2.setCell ⟨wb, 1, none⟩ (.int .i64 s.u)) W.heap.size 29 4 (.slice (some ⟨gr, 0, none⟩) es.length vcap) es.length (flatO es)) := row_box hr2 hbw2
              have hb3 := hbw2.set 1 (.int .i64 s.u)
              have X0 : World.cell? (w2.setCell ⟨wb, 1, none⟩ (.int .i64 s.u)) ⟨wb, 0, none⟩ = some (.int .i64 s.d) := hb3.cell 0
              have X1 : World.cell? (w2.setCell ⟨wb, 1, none⟩ (.int .i64 s.u)) ⟨wb, 1, none⟩ = some (.int .i64 s.u) := hb3.cell 1
              obtain ⟨gq, cq, hv3, Xa, Xb, X2, X3⟩ := row_cells HR3.out he
              cases hv3
              simp only at X2 X3
              clear Xa Xb
              clear hB2 hl2 hc2 hK2 hr2 hb2 hbw2 hb3 HCM HO1 HBW
              go_wp2_with fail
              generalize w2.setCell ⟨wb, 1, none⟩ (.int .i64 s.u) = w3 at *
              have x0 := X0
              have x1 := X1
              have x2 := X2
              have x3 := X3
              rename_i K hK
              try rw [show ∀ a : Act, a.put none undef = a from fun _ => rfl]
              refine reg40_no (s2 := s) (by kernel_rfl) (Fr.ofLit _ rfl) rfl rfl rfl rfl rfl rfl hj x2 x3 x0 x1 HK3.out.led ?_
              intro w5 hb5
              refine hK _ _ ?_
              simp only [Act.put, List.setIfInBounds_toArray, List.set_cons_succ, List.set_cons_zero]
              have hK5 := HK3.out.more ((Below.drew (Below.refl w3.heap.size w3)).trans hb5)
              have hr5 := ownsRow_same HR3.out (w' := w5) (fun g e => hb5.block g (ownsRow_lt HR3.out e).2)
              obtain ⟨K6, R6, fz6, u0, cz6⟩ := row_set hK5 hr5 he true
              have HC : Hid (OSt S hb mb lb b s (es.set j ⟨ek, ea, eb, true⟩) (.slice (some ⟨gr, 0, none⟩) es.length vcap) W (w5.setCell ⟨gr, j * 4 + 3, none⟩ (.bool true))) := ⟨K6, (by rw [show es.set j ⟨ek, ea, eb, true⟩ = es from HSET.out]; exact HOI.out), by rw [List.length_set]; exact R6⟩
              have HEL1 : Hid ((es.set j ⟨ek, ea, eb, true⟩).length ≤ k + 1) := (show (es.set j ⟨ek, ea, eb, true⟩).length ≤ k + 1 from by rw [List.length_set]; have := HEL.out; omega)
              have HBM1 : Hid (BS.me b = m) := HBM.out
              have hls : es.length = (es.set j ⟨ek, ea, eb, true⟩).length := by rw [List.length_set]
              clear hK5 hr5 K6 R6 hb5 HK3 HR3 HOI X0 X1 X2 X3 x0 x1 x2 x3 fz xx0 xx1
              rw [hls] at HC ⊢
              generalize (es.set j ⟨ek, ea, eb, true⟩) = es6 at *
              as_aux_lemma =>
                go_wp2_with fail
                generalize w5.setCell ⟨gr, j * 4 + 3, none⟩ (.bool true) = X6 at *
                have hel1 : (es6).length ≤ 101 := by have := HEL1.out; omega
                go_loopw [27, 28, 29] (fun sm cn j wr' => ∃ q : Nat, q ≤ (es6).length ∧ j = .int .i64 q ∧ sm = .int .i64 (sumH (liv ((es6).take q))) ∧ cn = .int .i64 ((liv ((es6).take q)).length : Nat) ∧ wr' = X6) (fun _ _ j _ => (es6).length - (intOf j).toNat)
                case atStart => exact ⟨0, Nat.zero_le _, rfl, by simp [liv, sumH], by simp [liv], rfl⟩
                case round =>
                  obtain ⟨q, hq, rfl, rfl, rfl, rfl⟩ := hrel
                  by_cases hql : q < (es6).length
                  · obtain ⟨⟨ek, ea, eb, eo⟩, he⟩ : ∃ e, (es6)[q]? = some e := ⟨(es6)[q]'hql, List.getElem?_eq_getElem _⟩
                    obtain ⟨gr, cr, hv, y0, y1, y2, y3⟩ := HC.out.cells he
                    have hlv := liv_take he
                    have hs1 := sum_take HC.out.oi q
                    have hs2 := sum_take HC.out.oi (q + 1)
                    simp only at y0 y1 y2 y3
                    cases hv
                    cases eo
                    · rw [liv_yes _ _ rfl] at hlv
                      have hsm : sumH (liv ((es6).take (q + 1))) = sumH (liv ((es6).take q)) + eb := by rw [hlv, sumH_append]; simp [sumH, liv, toHd]
                      have hcn : (liv ((es6).take (q + 1))).length = (liv ((es6).take q)).length + 1 := by rw [hlv]; simp [liv]
                      have hll : (liv ((es6).take q)).length ≤ 100 := by have := List.length_filter_le (fun e : OpA => !e.o) ((es6).take q); have := List.length_take_le q (es6); have := HEL1.out; simp only [liv, List.length_map]; omega
                      have hwa : IntKind.i64.wrap (sumH (liv ((es6).take q)) + eb) = sumH (liv ((es6).take q)) + eb := by rw [IntKind.wrap_i64]; omega
                      have HSM : Hid _ := hsm
                      have HCN : Hid _ := hcn
                      clear hlv hs1 hs2 hsm hcn he
                      go_wp2_with fail
                      go_roundw
                      case rel => exact ⟨q + 1, by omega, by go_num, by rw [HSM.out], by rw [HCN.out]; go_num, by first | rfl | trivial⟩
                      case measure => simp [intOf]; omega
                    · rw [liv_no _ _ rfl] at hlv
                      have hlv2 : liv ((es6).take (q + 1)) = liv ((es6).take q) := by rw [hlv]; simp [liv]
                      have HLV : Hid _ := hlv2
                      clear hlv hlv2 hs1 hs2 he
                      go_wp2_with fail
                      go_roundw
                      case rel => exact ⟨q + 1, by omega, by go_num, by rw [HLV.out], by rw [HLV.out], by first | rfl | trivial⟩
                      case measure => simp [intOf]; omega
                  · have hqq : q = (es6).length := by omega
                    have hLq : (b).L = liv ((es6).take q) := by rw [List.take_of_length_le (by omega)]; exact HC.out.oi.L
                    have f1 : sumH (b).L = sumH (liv ((es6).take q)) := by rw [hLq]
                    have f2 : (b).L.length = (liv ((es6).take q)).length := by rw [hLq]
                    have f3 : (s).h = sumH (liv ((es6).take q)) := HC.out.oi.held.trans f1
                    have f4 : (s).d + (s).u + sumH (liv ((es6).take q)) = 700 := by rw [← f3]; exact HC.out.oi.tot
                    have g1 := HC.out.oi.sok.d0
                    have g2 := HC.out.oi.sok.u0
                    have g3 : 0 ≤ sumH (liv ((es6).take q)) := (sum_take HC.out.oi q).1
                    have F1 : Hid _ := f1
                    have F2 : Hid _ := f2
                    have F3 : Hid _ := f3
                    have HRI : Hid _ := rights_any _ HC.out.bk.led
                    clear hLq f1 f2 f3
                    generalize sumH (liv ((es6).take q)) = sm at *
                    generalize (liv ((es6).take q)).length = cn at *
                    go_wp2_with fail
                    refine Calls.mono HRI.out ?_
                    rintro e w5 ⟨rfl, hb5⟩
                    have hgr : Below w5.heap.size w5 (w5.alloc (.cells #[.int .i64 (s).d, .int .i64 (s).u] 42)) := (Below.refl _ _).alloc (Nat.le_refl _) _
                    have hO5 := (HC.out.more hb5).more hgr
                    have hbx : Blk (w5.alloc (.cells #[.int .i64 (s).d, .int .i64 (s).u] 42)) w5.heap.size #[.int .i64 (s).d, .int .i64 (s).u] 42 := heap_alloc_new w5 _
                    have hsu := sum_any _ hO5.bk.bk hO5.oi.bok
                    rw [F1.out] at hsu
                    have HSU : Hid _ := hsu
                    have HO5 : Hid _ := hO5
                    have HBX5 : Hid _ := hbx
                    clear hb5 hgr hO5 hbx hsu HRI
                    go_wp2_with fail
                    refine Calls.mono HSU.out ?_
                    rintro e w7 ⟨rfl, hb7⟩
                    have hO7 := HO5.out.more hb7
                    have hbx7 := Blk.below HBX5.out hb7 (Blk.lt HBX5.out)
                    have hhe := held_any w7 hO7.bk.led
                    rw [F3.out] at hhe
                    have HHE : Hid _ := hhe
                    have HNU : Hid _ := numbers_any w7 hO7.bk.bk hO7.oi.bok (by have := hO7.oi.mad; omega)
                    have HO7 : Hid _ := hO7
                    have HBX7 : Hid _ := hbx7
                    clear hb7 hO7 hbx7 hhe HSU HO5 HBX5
                    go_wp2_with fail
                    refine Calls.mono HHE.out ?_
                    rintro e w8 ⟨rfl, hw8⟩
                    replace hw8 := hw8.symm
                    subst hw8
                    go_wp2_with fail
                    refine Calls.mono HNU.out ?_
                    rintro e w9 ⟨v9, rfl, ho9, hb9⟩
                    rw [F2.out] at ho9
                    obtain ⟨ao9, c9, hv9, _⟩ := own_slice ho9
                    subst hv9
                    have hO9 := HO7.out.more hb9
                    have hbx9 := Blk.below HBX7.out hb9 (Blk.lt HBX7.out)
                    have z0 : w9.cell? ⟨w5.heap.size, 0, none⟩ = some (.int .i64 (s).d) := Blk.cell hbx9 0
                    have z1 : w9.cell? ⟨w5.heap.size, 1, none⟩ = some (.int .i64 (s).u) := Blk.cell hbx9 1
                    have hw1 : IntKind.i64.wrap ((s).d + (s).u) = (s).d + (s).u := by rw [IntKind.wrap_i64]; omega
                    have hw2 : IntKind.i64.wrap ((s).d + (s).u + sm) = 700 := by rw [f4]; rfl
                    have HN : Hid _ := (show ORel S hb mb lb m (k + 1) (.slice (some ⟨gr, 0, none⟩) es6.length vcap) W w9 from ⟨_, _, _, hO9, HEL1.out, HBM1.out⟩)
                    clear ho9 hb9 hO9 hbx9 HHE HNU HO7 HBX7
                    go_wp2_with fail
                    go_roundw
                    case rel => exact ⟨k + 1, by omega, by go_num, HN.out⟩
                    case measure => simp [intOf]; omega
      by_cases h5 : K = 5
      · as_aux_lemma =>
          subst h5
          by_cases hz : es.length = 0
          · obtain rfl : es = [] := List.length_eq_zero_iff.1 hz
            have HN : Hid (ORel S hb mb lb m (k + 1) (.slice vao 0 vcap) W (wr.alloc (.cells #[.int .i64 5, .int .i64 A, .int .i64 B, .bool ob] 29))) := ⟨b, s, [], HBX.out.st, Nat.zero_le _, HBM.out⟩
            clear HBX hz
            go_wp2_with fail
            go_roundw
            case rel => exact ⟨k + 1, by omega, by go_num, HN.out⟩
            case measure => simp [intOf]; omega
          · have hzp : 0 < es.length := by omega
            have hsl2 := slot_any A es.length hzp (by have := HEL.out; omega)
            go_wp2_with fail
            refine (hsl2 _).mono ?_
            rintro e w' ⟨rfl, hw'⟩
            replace hw' := hw'.symm
            subst hw'
            clear hsl2 d0 d1 d2 d3 hk0 hk1 hk2
            generalize wr.alloc (.cells #[.int .i64 5, .int .i64 A, .int .i64 B, .bool ob] 29) = X at *
            generalize wr.heap.size = bx at *
            have hem := Int.emod_nonneg A (show (es.length : Int) ≠ 0 by omega)
            have hel := Int.emod_lt_of_pos A (show (0 : Int) < es.length by omega)
            obtain ⟨j, hjA⟩ : ∃ j : Nat, A % (es.length : Int) = j := ⟨(A % (es.length : Int)).toNat, by omega⟩
            rw [hjA] at hel ⊢
            have hj : j < es.length := by omega
            clear hem hel hjA hz
            obtain ⟨⟨ek, ea, eb, eo⟩, he⟩ : ∃ e, es[j]? = some e := ⟨es[j]'hj, List.getElem?_eq_getElem _⟩
            have hsp := split_es he
            have hnum := HBX.out.st.oi.num _ (List.mem_of_getElem? he)
            have hmad := HBX.out.st.oi.mad
            have hel0 := HEL.out
            simp only at hnum
            have hwa : IntKind.i64.wrap ea = ea := by rw [IntKind.wrap_i64]; omega
            have HSP : Hid _ := hsp
            have HRI : Hid _ := rights_any X HBX.out.st.bk.led
            clear hsp hnum hmad hel0
            go_wp2_with fail
            refine Calls.mono HRI.out ?_
            rintro e w1 ⟨rfl, hb1⟩
            have hgr : Below w1.heap.size w1 (w1.alloc (.cells #[.int .i64 s.d, .int .i64 s.u] 42)) := (Below.refl _ _).alloc (Nat.le_refl _) _
            have hO1 := (HBX.out.more hb1).more hgr
            have hbw : Blk (w1.alloc (.cells #[.int .i64 s.d, .int .i64 s.u] 42)) w1.heap.size #[.int .i64 s.d, .int .i64 s.u] 42 := heap_alloc_new w1 _
            obtain ⟨gr, cr, hv, z0, z1, z2, z3⟩ := hO1.st.cells he
            simp only at z0 z1 z2 z3
            simp only [Value.slice.injEq] at hv
            obtain ⟨rfl, _, rfl⟩ := hv
            have k0 : World.cell? (w1.alloc (.cells #[.int .i64 s.d, .int .i64 s.u] 42)) ⟨bx, 0, none⟩ = some (.int .i64 5) := hO1.c0
            have hcm := release_any _ hO1.st.bk.sen hO1.st.bk.bk hO1.st.bk.led hO1.st.oi.sok hO1.st.bk.lo.2.2 ea hwa
            have HO1 : Hid _ := hO1
            have HBW : Hid (Blk _ _ _ _) := hbw
            have HWB : Hid (W.heap.size ≤ w1.heap.size) := (by have := (HBX.out.more hb1).st.low; exact this)
            clear hO1 hbw hgr hb1 HBX HRI
            have hsp := HSP.out
            clear HSP
            cases eo
            · obtain ⟨q1, q2, q3, q4, q5⟩ := HO1.out.st.oi.end_yes hsp rfl
              have hOI := q5 0 (by decide)
              rw [q1, q2, q3] at hcm
              rw [q3, ← set_split he] at hOI
              simp only at hcm hOI
              have hrng := HO1.out.st.oi.tot
              have hsk := HO1.out.st.oi.sok
              have hok2 := hOI.sok
              clear q1 q2 q3 q4 q5
              have HCM : Hid _ := hcm
              have HOI : Hid _ := hOI
              have hd0 := hsk.d0
              have hu0 := hsk.u0
              have hsum : s.d + s.u + s.h = 700 := HO1.out.st.oi.tot
              have hh0 : 0 ≤ s.h := by have := (sum_take HO1.out.st.oi es.length).1; rw [List.take_of_length_le (Nat.le_refl _), ← HO1.out.st.oi.L, ← HO1.out.st.oi.held] at this; exact this
              have hebr : 0 ≤ eb ∧ eb ≤ 700 := by have h1 := hok2.d0; have h2 := hok2.u0; have h3 := hOI.tot; have h4 := (sum_take hOI (es.set j ⟨ek, ea, eb, true⟩).length).1; rw [List.take_of_length_le (Nat.le_refl _), ← hOI.L, ← hOI.held] at h4; have h5 := HO1.out.st.oi.bd (toHd ⟨ek, ea, eb, false⟩) (by rw [HO1.out.st.oi.L, hsp, liv_append, liv_yes _ _ rfl]; simp); simp only [toHd] at h3 h4 h5; omega
              clear hcm hOI hsk hsp
              go_wp2_with fail
              generalize w1.alloc (.cells #[.int .i64 s.d, .int .i64 s.u] 42) = X1' at *
              generalize w1.heap.size = wb at *
              refine Calls.mono HCM.out ?_
              rintro e w2 ⟨rfl, hB2, hl2, hc2⟩
              obtain ⟨hK2, hr2, hb2⟩ := HO1.out.held (hc2.mono (fun j _ e => Or.inr e)) hB2 hl2
              have hbw2 : Blk w2 wb #[.int .i64 s.d, .int .i64 s.u] 42 := hc2.blk HBW.out (fun e => by rcases e with e | e; exact (Blk.ne_m HBW.out HO1.out.st.bk.bk.map) e; exact (Blk.ne_t HBW.out HO1.out.st.bk.led (by decide)) e)
              have xx0 : w2.cell? ⟨wb, 0, none⟩ = some (.int .i64 s.d) := hbw2.cell 0
              have xx1 : w2.cell? ⟨wb, 1, none⟩ = some (.int .i64 s.u) := hbw2.cell 1
              have fz := hbw2.frozen 0
              have HK3 : Hid (BkS S hb mb lb (b.enext s ea) { s with d := s.d + eb, h := s.h - eb } W (w2.setCell ⟨wb, 0, none⟩ (.int .i64 (s.d + eb)))) := bks_box hK2 hbw2 HWB.out
              have HR3 : Hid (World.ownsRow (w2.setCell ⟨wb, 0, none⟩ (.int .i64 (s.d + eb))) W.heap.size 29 4 (.slice (some ⟨gr, 0, none⟩) es.length vcap) es.length (flatO es)) := row_box hr2 hbw2
              have hb3 := hbw2.set 0 (.int .i64 (s.d + eb))
              have X0 : World.cell? (w2.setCell ⟨wb, 0, none⟩ (.int .i64 (s.d + eb))) ⟨wb, 0, none⟩ = some (.int .i64 (s.d + eb)) := hb3.cell 0
              have X1 : World.cell? (w2.setCell ⟨wb, 0, none⟩ (.int .i64 (s.d + eb))) ⟨wb, 1, none⟩ = some (.int .i64 s.u) := hb3.cell 1
              obtain ⟨gq, cq, hv3, Xa, Xb, X2, X3⟩ := row_cells HR3.out he
              cases hv3
              simp only at X2 X3
              clear Xa Xb
              clear hB2 hl2 hc2 hK2 hr2 hb2 hbw2 hb3 HCM HO1 HBW
              go_wp2_with fail
              generalize w2.setCell ⟨wb, 0, none⟩ (.int .i64 (s.d + eb)) = w3 at *
              have x0 := X0
              have x1 := X1
              have x2 := X2
              have x3 := X3
              rename_i K hK
              try rw [show ∀ a : Act, a.put none undef = a from fun _ => rfl]
              refine reg40_yes (s2 := { s with d := s.d + eb, h := s.h - eb }) (by kernel_rfl) (Fr.ofLit _ rfl) rfl rfl rfl rfl rfl rfl hj x2 x3 x0 x1 HK3.out.led ?_
              intro w5 hb5
              refine hK _ _ ?_
              simp only [Act.put, List.setIfInBounds_toArray, List.set_cons_succ, List.set_cons_zero]
              have hK5 := HK3.out.more ((Below.drew (Below.refl w3.heap.size w3)).trans hb5)
              have hr5 := ownsRow_same HR3.out (w' := w5) (fun g e => hb5.block g (ownsRow_lt HR3.out e).2)
              obtain ⟨K6, R6, fz6, u0, cz6⟩ := row_set hK5 hr5 he true
              have HC : Hid (OSt S hb mb lb (b.enext s ea) { s with d := s.d + eb, h := s.h - eb } (es.set j ⟨ek, ea, eb, true⟩) (.slice (some ⟨gr, 0, none⟩) es.length vcap) W (w5.setCell ⟨gr, j * 4 + 3, none⟩ (.bool true))) := ⟨K6, HOI.out, by rw [List.length_set]; exact R6⟩
              have HEL1 : Hid ((es.set j ⟨ek, ea, eb, true⟩).length ≤ k + 1) := (show (es.set j ⟨ek, ea, eb, true⟩).length ≤ k + 1 from by rw [List.length_set]; have := HEL.out; omega)
              have HBM1 : Hid (BS.me (b.enext s ea) = m) := (show BS.me (b.enext s ea) = m from by rw [← HBM.out]; unfold BS.enext; cases b.ecode s ea == 0 <;> rfl)
              have hls : es.length = (es.set j ⟨ek, ea, eb, true⟩).length := by rw [List.length_set]
              clear hK5 hr5 K6 R6 hb5 HK3 HR3 HOI X0 X1 X2 X3 x0 x1 x2 x3 fz xx0 xx1
              rw [hls] at HC ⊢
              generalize (es.set j ⟨ek, ea, eb, true⟩) = es6 at *
              generalize (b.enext s ea) = b6 at *
              obtain ⟨s6, hs6⟩ : ∃ s6, s6 = ({ s with d := s.d + eb, h := s.h - eb } : LS) := ⟨_, rfl⟩
              rw [← hs6] at HC
              clear hs6
              as_aux_lemma =>
                go_wp2_with fail
                generalize w5.setCell ⟨gr, j * 4 + 3, none⟩ (.bool true) = X6 at *
                have hel1 : (es6).length ≤ 101 := by have := HEL1.out; omega
                go_loopw [27, 28, 29] (fun sm cn j wr' => ∃ q : Nat, q ≤ (es6).length ∧ j = .int .i64 q ∧ sm = .int .i64 (sumH (liv ((es6).take q))) ∧ cn = .int .i64 ((liv ((es6).take q)).length : Nat) ∧ wr' = X6) (fun _ _ j _ => (es6).length - (intOf j).toNat)
                case atStart => exact ⟨0, Nat.zero_le _, rfl, by simp [liv, sumH], by simp [liv], rfl⟩
                case round =>
                  obtain ⟨q, hq, rfl, rfl, rfl, rfl⟩ := hrel
                  by_cases hql : q < (es6).length
                  · obtain ⟨⟨ek, ea, eb, eo⟩, he⟩ : ∃ e, (es6)[q]? = some e := ⟨(es6)[q]'hql, List.getElem?_eq_getElem _⟩
                    obtain ⟨gr, cr, hv, y0, y1, y2, y3⟩ := HC.out.cells he
                    have hlv := liv_take he
                    have hs1 := sum_take HC.out.oi q
                    have hs2 := sum_take HC.out.oi (q + 1)
                    simp only at y0 y1 y2 y3
                    cases hv
                    cases eo
                    · rw [liv_yes _ _ rfl] at hlv
                      have hsm : sumH (liv ((es6).take (q + 1))) = sumH (liv ((es6).take q)) + eb := by rw [hlv, sumH_append]; simp [sumH, liv, toHd]
                      have hcn : (liv ((es6).take (q + 1))).length = (liv ((es6).take q)).length + 1 := by rw [hlv]; simp [liv]
                      have hll : (liv ((es6).take q)).length ≤ 100 := by have := List.length_filter_le (fun e : OpA => !e.o) ((es6).take q); have := List.length_take_le q (es6); have := HEL1.out; simp only [liv, List.length_map]; omega
                      have hwa : IntKind.i64.wrap (sumH (liv ((es6).take q)) + eb) = sumH (liv ((es6).take q)) + eb := by rw [IntKind.wrap_i64]; omega
                      have HSM : Hid _ := hsm
                      have HCN : Hid _ := hcn
                      clear hlv hs1 hs2 hsm hcn he
                      go_wp2_with fail
                      go_roundw
                      case rel => exact ⟨q + 1, by omega, by go_num, by rw [HSM.out], by rw [HCN.out]; go_num, by first | rfl | trivial⟩
                      case measure => simp [intOf]; omega
                    · rw [liv_no _ _ rfl] at hlv
                      have hlv2 : liv ((es6).take (q + 1)) = liv ((es6).take q) := by rw [hlv]; simp [liv]
                      have HLV : Hid _ := hlv2
                      clear hlv hlv2 hs1 hs2 he
                      go_wp2_with fail
                      go_roundw
                      case rel => exact ⟨q + 1, by omega, by go_num, by rw [HLV.out], by rw [HLV.out], by first | rfl | trivial⟩
                      case measure => simp [intOf]; omega
                  · have hqq : q = (es6).length := by omega
                    have hLq : (b6).L = liv ((es6).take q) := by rw [List.take_of_length_le (by omega)]; exact HC.out.oi.L
                    have f1 : sumH (b6).L = sumH (liv ((es6).take q)) := by rw [hLq]
                    have f2 : (b6).L.length = (liv ((es6).take q)).length := by rw [hLq]
                    have f3 : (s6).h = sumH (liv ((es6).take q)) := HC.out.oi.held.trans f1
                    have f4 : (s6).d + (s6).u + sumH (liv ((es6).take q)) = 700 := by rw [← f3]; exact HC.out.oi.tot
                    have g1 := HC.out.oi.sok.d0
                    have g2 := HC.out.oi.sok.u0
                    have g3 : 0 ≤ sumH (liv ((es6).take q)) := (sum_take HC.out.oi q).1
                    have F1 : Hid _ := f1
                    have F2 : Hid _ := f2
                    have F3 : Hid _ := f3
                    have HRI : Hid _ := rights_any _ HC.out.bk.led
                    clear hLq f1 f2 f3
                    generalize sumH (liv ((es6).take q)) = sm at *
                    generalize (liv ((es6).take q)).length = cn at *
                    go_wp2_with fail
                    refine Calls.mono HRI.out ?_
                    rintro e w5 ⟨rfl, hb5⟩
                    have hgr : Below w5.heap.size w5 (w5.alloc (.cells #[.int .i64 (s6).d, .int .i64 (s6).u] 42)) := (Below.refl _ _).alloc (Nat.le_refl _) _
                    have hO5 := (HC.out.more hb5).more hgr
                    have hbx : Blk (w5.alloc (.cells #[.int .i64 (s6).d, .int .i64 (s6).u] 42)) w5.heap.size #[.int .i64 (s6).d, .int .i64 (s6).u] 42 := heap_alloc_new w5 _
                    have hsu := sum_any _ hO5.bk.bk hO5.oi.bok
                    rw [F1.out] at hsu
                    have HSU : Hid _ := hsu
                    have HO5 : Hid _ := hO5
                    have HBX5 : Hid _ := hbx
                    clear hb5 hgr hO5 hbx hsu HRI
                    go_wp2_with fail
                    refine Calls.mono HSU.out ?_
                    rintro e w7 ⟨rfl, hb7⟩
                    have hO7 := HO5.out.more hb7
                    have hbx7 := Blk.below HBX5.out hb7 (Blk.lt HBX5.out)
                    have hhe := held_any w7 hO7.bk.led
                    rw [F3.out] at hhe
                    have HHE : Hid _ := hhe
                    have HNU : Hid _ := numbers_any w7 hO7.bk.bk hO7.oi.bok (by have := hO7.oi.mad; omega)
                    have HO7 : Hid _ := hO7
                    have HBX7 : Hid _ := hbx7
                    clear hb7 hO7 hbx7 hhe HSU HO5 HBX5
                    go_wp2_with fail
                    refine Calls.mono HHE.out ?_
                    rintro e w8 ⟨rfl, hw8⟩
                    replace hw8 := hw8.symm
                    subst hw8
                    go_wp2_with fail
                    refine Calls.mono HNU.out ?_
                    rintro e w9 ⟨v9, rfl, ho9, hb9⟩
                    rw [F2.out] at ho9
                    obtain ⟨ao9, c9, hv9, _⟩ := own_slice ho9
                    subst hv9
                    have hO9 := HO7.out.more hb9
                    have hbx9 := Blk.below HBX7.out hb9 (Blk.lt HBX7.out)
                    have z0 : w9.cell? ⟨w5.heap.size, 0, none⟩ = some (.int .i64 (s6).d) := Blk.cell hbx9 0
                    have z1 : w9.cell? ⟨w5.heap.size, 1, none⟩ = some (.int .i64 (s6).u) := Blk.cell hbx9 1
                    have hw1 : IntKind.i64.wrap ((s6).d + (s6).u) = (s6).d + (s6).u := by rw [IntKind.wrap_i64]; omega
                    have hw2 : IntKind.i64.wrap ((s6).d + (s6).u + sm) = 700 := by rw [f4]; rfl
                    have HN : Hid _ := (show ORel S hb mb lb m (k + 1) (.slice (some ⟨gr, 0, none⟩) es6.length vcap) W w9 from ⟨_, _, _, hO9, HEL1.out, HBM1.out⟩)
                    clear ho9 hb9 hO9 hbx9 HHE HNU HO7 HBX7
                    go_wp2_with fail
                    go_roundw
                    case rel => exact ⟨k + 1, by omega, by go_num, HN.out⟩
                    case measure => simp [intOf]; omega
            · obtain ⟨q1, q2, q3, q4⟩ := HO1.out.st.oi.end_no hsp rfl 0
              have hOI := HO1.out.st.oi
              rw [q1, q2, q3, q4] at hcm
              have HSET : Hid _ := set_self he
              have hsk := HO1.out.st.oi.sok
              clear q1 q2 q3 q4
              have HCM : Hid _ := hcm
              have HOI : Hid _ := hOI
              have hd0 := hsk.d0
              have hu0 := hsk.u0
              have hsum : s.d + s.u + s.h = 700 := HO1.out.st.oi.tot
              have hh0 : 0 ≤ s.h := by have := (sum_take HO1.out.st.oi es.length).1; rw [List.take_of_length_le (Nat.le_refl _), ← HO1.out.st.oi.L, ← HO1.out.st.oi.held] at this; exact this
              skip
              clear hcm hOI hsk hsp
              go_wp2_with fail
              generalize w1.alloc (.cells #[.int .i64 s.d, .int .i64 s.u] 42) = X1' at *
              generalize w1.heap.size = wb at *
              refine Calls.mono HCM.out ?_
              rintro e w2 ⟨rfl, hB2, hl2, hc2⟩
              obtain ⟨hK2, hr2, hb2⟩ := HO1.out.held (hc2.mono (fun j _ e => Or.inr e)) hB2 hl2
              have hbw2 : Blk w2 wb #[.int .i64 s.d, .int .i64 s.u] 42 := hc2.blk HBW.out (fun e => by rcases e with e | e; exact (Blk.ne_m HBW.out HO1.out.st.bk.bk.map) e; exact (Blk.ne_t HBW.out HO1.out.st.bk.led (by decide)) e)
              have xx0 : w2.cell? ⟨wb, 0, none⟩ = some (.int .i64 s.d) := hbw2.cell 0
              have xx1 : w2.cell? ⟨wb, 1, none⟩ = some (.int .i64 s.u) := hbw2.cell 1
              have fz := hbw2.frozen 0
              have HK3 : Hid (BkS S hb mb lb b s W (w2.setCell ⟨wb, 0, none⟩ (.int .i64 s.d))) := bks_box hK2 hbw2 HWB.out
              have HR3 : Hid (World.ownsRow (w2.setCell ⟨wb, 0, none⟩ (.int .i64 s.d)) W.heap.size 29 4 (.slice (some ⟨gr, 0, none⟩) es.length vcap) es.length (flatO es)) := row_box hr2 hbw2
              have hb3 := hbw2.set 0 (.int .i64 s.d)
              have X0 : World.cell? (w2.setCell ⟨wb, 0, none⟩ (.int .i64 s.d)) ⟨wb, 0, none⟩ = some (.int .i64 s.d) := hb3.cell 0
              have X1 : World.cell? (w2.setCell ⟨wb, 0, none⟩ (.int .i64 s.d)) ⟨wb, 1, none⟩ = some (.int .i64 s.u) := hb3.cell 1
              obtain ⟨gq, cq, hv3, Xa, Xb, X2, X3⟩ := row_cells HR3.out he
              cases hv3
              simp only at X2 X3
              clear Xa Xb
              clear hB2 hl2 hc2 hK2 hr2 hb2 hbw2 hb3 HCM HO1 HBW
              go_wp2_with fail
              generalize w2.setCell ⟨wb, 0, none⟩ (.int .i64 s.d) = w3 at *
              have x0 := X0
              have x1 := X1
              have x2 := X2
              have x3 := X3
              rename_i K hK
              try rw [show ∀ a : Act, a.put none undef = a from fun _ => rfl]
              refine reg40_no (s2 := s) (by kernel_rfl) (Fr.ofLit _ rfl) rfl rfl rfl rfl rfl rfl hj x2 x3 x0 x1 HK3.out.led ?_
              intro w5 hb5
              refine hK _ _ ?_
              simp only [Act.put, List.setIfInBounds_toArray, List.set_cons_succ, List.set_cons_zero]
              have hK5 := HK3.out.more ((Below.drew (Below.refl w3.heap.size w3)).trans hb5)
              have hr5 := ownsRow_same HR3.out (w' := w5) (fun g e => hb5.block g (ownsRow_lt HR3.out e).2)
              obtain ⟨K6, R6, fz6, u0, cz6⟩ := row_set hK5 hr5 he true
              have HC : Hid (OSt S hb mb lb b s (es.set j ⟨ek, ea, eb, true⟩) (.slice (some ⟨gr, 0, none⟩) es.length vcap) W (w5.setCell ⟨gr, j * 4 + 3, none⟩ (.bool true))) := ⟨K6, (by rw [show es.set j ⟨ek, ea, eb, true⟩ = es from HSET.out]; exact HOI.out), by rw [List.length_set]; exact R6⟩
              have HEL1 : Hid ((es.set j ⟨ek, ea, eb, true⟩).length ≤ k + 1) := (show (es.set j ⟨ek, ea, eb, true⟩).length ≤ k + 1 from by rw [List.length_set]; have := HEL.out; omega)
              have HBM1 : Hid (BS.me b = m) := HBM.out
              have hls : es.length = (es.set j ⟨ek, ea, eb, true⟩).length := by rw [List.length_set]
              clear hK5 hr5 K6 R6 hb5 HK3 HR3 HOI X0 X1 X2 X3 x0 x1 x2 x3 fz xx0 xx1
              rw [hls] at HC ⊢
              generalize (es.set j ⟨ek, ea, eb, true⟩) = es6 at *
              as_aux_lemma =>
                go_wp2_with fail
                generalize w5.setCell ⟨gr, j * 4 + 3, none⟩ (.bool true) = X6 at *
                have hel1 : (es6).length ≤ 101 := by have := HEL1.out; omega
                go_loopw [27, 28, 29] (fun sm cn j wr' => ∃ q : Nat, q ≤ (es6).length ∧ j = .int .i64 q ∧ sm = .int .i64 (sumH (liv ((es6).take q))) ∧ cn = .int .i64 ((liv ((es6).take q)).length : Nat) ∧ wr' = X6) (fun _ _ j _ => (es6).length - (intOf j).toNat)
                case atStart => exact ⟨0, Nat.zero_le _, rfl, by simp [liv, sumH], by simp [liv], rfl⟩
                case round =>
                  obtain ⟨q, hq, rfl, rfl, rfl, rfl⟩ := hrel
                  by_cases hql : q < (es6).length
                  · obtain ⟨⟨ek, ea, eb, eo⟩, he⟩ : ∃ e, (es6)[q]? = some e := ⟨(es6)[q]'hql, List.getElem?_eq_getElem _⟩
                    obtain ⟨gr, cr, hv, y0, y1, y2, y3⟩ := HC.out.cells he
                    have hlv := liv_take he
                    have hs1 := sum_take HC.out.oi q
                    have hs2 := sum_take HC.out.oi (q + 1)
                    simp only at y0 y1 y2 y3
                    cases hv
                    cases eo
                    · rw [liv_yes _ _ rfl] at hlv
                      have hsm : sumH (liv ((es6).take (q + 1))) = sumH (liv ((es6).take q)) + eb := by rw [hlv, sumH_append]; simp [sumH, liv, toHd]
                      have hcn : (liv ((es6).take (q + 1))).length = (liv ((es6).take q)).length + 1 := by rw [hlv]; simp [liv]
                      have hll : (liv ((es6).take q)).length ≤ 100 := by have := List.length_filter_le (fun e : OpA => !e.o) ((es6).take q); have := List.length_take_le q (es6); have := HEL1.out; simp only [liv, List.length_map]; omega
                      have hwa : IntKind.i64.wrap (sumH (liv ((es6).take q)) + eb) = sumH (liv ((es6).take q)) + eb := by rw [IntKind.wrap_i64]; omega
                      have HSM : Hid _ := hsm
                      have HCN : Hid _ := hcn
                      clear hlv hs1 hs2 hsm hcn he
                      go_wp2_with fail
                      go_roundw
                      case rel => exact ⟨q + 1, by omega, by go_num, by rw [HSM.out], by rw [HCN.out]; go_num, by first | rfl | trivial⟩
                      case measure => simp [intOf]; omega
                    · rw [liv_no _ _ rfl] at hlv
                      have hlv2 : liv ((es6).take (q + 1)) = liv ((es6).take q) := by rw [hlv]; simp [liv]
                      have HLV : Hid _ := hlv2
                      clear hlv hlv2 hs1 hs2 he
                      go_wp2_with fail
                      go_roundw
                      case rel => exact ⟨q + 1, by omega, by go_num, by rw [HLV.out], by rw [HLV.out], by first | rfl | trivial⟩
                      case measure => simp [intOf]; omega
                  · have hqq : q = (es6).length := by omega
                    have hLq : (b).L = liv ((es6).take q) := by rw [List.take_of_length_le (by omega)]; exact HC.out.oi.L
                    have f1 : sumH (b).L = sumH (liv ((es6).take q)) := by rw [hLq]
                    have f2 : (b).L.length = (liv ((es6).take q)).length := by rw [hLq]
                    have f3 : (s).h = sumH (liv ((es6).take q)) := HC.out.oi.held.trans f1
                    have f4 : (s).d + (s).u + sumH (liv ((es6).take q)) = 700 := by rw [← f3]; exact HC.out.oi.tot
                    have g1 := HC.out.oi.sok.d0
                    have g2 := HC.out.oi.sok.u0
                    have g3 : 0 ≤ sumH (liv ((es6).take q)) := (sum_take HC.out.oi q).1
                    have F1 : Hid _ := f1
                    have F2 : Hid _ := f2
                    have F3 : Hid _ := f3
                    have HRI : Hid _ := rights_any _ HC.out.bk.led
                    clear hLq f1 f2 f3
                    generalize sumH (liv ((es6).take q)) = sm at *
                    generalize (liv ((es6).take q)).length = cn at *
                    go_wp2_with fail
                    refine Calls.mono HRI.out ?_
                    rintro e w5 ⟨rfl, hb5⟩
                    have hgr : Below w5.heap.size w5 (w5.alloc (.cells #[.int .i64 (s).d, .int .i64 (s).u] 42)) := (Below.refl _ _).alloc (Nat.le_refl _) _
                    have hO5 := (HC.out.more hb5).more hgr
                    have hbx : Blk (w5.alloc (.cells #[.int .i64 (s).d, .int .i64 (s).u] 42)) w5.heap.size #[.int .i64 (s).d, .int .i64 (s).u] 42 := heap_alloc_new w5 _
                    have hsu := sum_any _ hO5.bk.bk hO5.oi.bok
                    rw [F1.out] at hsu
                    have HSU : Hid _ := hsu
                    have HO5 : Hid _ := hO5
                    have HBX5 : Hid _ := hbx
                    clear hb5 hgr hO5 hbx hsu HRI
                    go_wp2_with fail
                    refine Calls.mono HSU.out ?_
                    rintro e w7 ⟨rfl, hb7⟩
                    have hO7 := HO5.out.more hb7
                    have hbx7 := Blk.below HBX5.out hb7 (Blk.lt HBX5.out)
                    have hhe := held_any w7 hO7.bk.led
                    rw [F3.out] at hhe
                    have HHE : Hid _ := hhe
                    have HNU : Hid _ := numbers_any w7 hO7.bk.bk hO7.oi.bok (by have := hO7.oi.mad; omega)
                    have HO7 : Hid _ := hO7
                    have HBX7 : Hid _ := hbx7
                    clear hb7 hO7 hbx7 hhe HSU HO5 HBX5
                    go_wp2_with fail
                    refine Calls.mono HHE.out ?_
                    rintro e w8 ⟨rfl, hw8⟩
                    replace hw8 := hw8.symm
                    subst hw8
                    go_wp2_with fail
                    refine Calls.mono HNU.out ?_
                    rintro e w9 ⟨v9, rfl, ho9, hb9⟩
                    rw [F2.out] at ho9
                    obtain ⟨ao9, c9, hv9, _⟩ := own_slice ho9
                    subst hv9
                    have hO9 := HO7.out.more hb9
                    have hbx9 := Blk.below HBX7.out hb9 (Blk.lt HBX7.out)
                    have z0 : w9.cell? ⟨w5.heap.size, 0, none⟩ = some (.int .i64 (s).d) := Blk.cell hbx9 0
                    have z1 : w9.cell? ⟨w5.heap.size, 1, none⟩ = some (.int .i64 (s).u) := Blk.cell hbx9 1
                    have hw1 : IntKind.i64.wrap ((s).d + (s).u) = (s).d + (s).u := by rw [IntKind.wrap_i64]; omega
                    have hw2 : IntKind.i64.wrap ((s).d + (s).u + sm) = 700 := by rw [f4]; rfl
                    have HN : Hid _ := (show ORel S hb mb lb m (k + 1) (.slice (some ⟨gr, 0, none⟩) es6.length vcap) W w9 from ⟨_, _, _, hO9, HEL1.out, HBM1.out⟩)
                    clear ho9 hb9 hO9 hbx9 HHE HNU HO7 HBX7
                    go_wp2_with fail
                    go_roundw
                    case rel => exact ⟨k + 1, by omega, by go_num, HN.out⟩
                    case measure => simp [intOf]; omega
      by_cases h6 : K = 6
      · as_aux_lemma =>
          subst h6
          have hOI0 := HBX.out.st.oi
          have htl0 : (xrun A s b.L).told.length ≤ 1000000 := by have h1 := xrun_len A s b.L; have h6 := hOI0.bok.len; have h7 := hOI0.bok.r1; omega
          have hex := expire_any (b := b) (s := s) _ HBX.out.st.bk.sen HBX.out.st.bk.bk hOI0.bok HBX.out.st.bk.led hOI0.sok HBX.out.st.bk.lo.2.2 HBX.out.st.bk.lo.2.1 (by have := hOI0.mad; have := HEL.out; omega) A
          obtain ⟨hOIx, htold⟩ := hOI0.expire A
          have hlow0 := HBX.out.st.low
          have HEX : Hid _ := hex
          have HOIX : Hid _ := hOIx
          have HTO : Hid _ := htold
          clear hex hOIx htold hOI0
          go_wp2_with fail
          refine Calls.mono HEX.out ?_
          rintro e w4 ⟨v4, rfl, ht4, hB4, hl4, hc4⟩
          obtain ⟨hK4, hr4, hb4⟩ := HBX.out.held (hc4.mono (fun j _ e => Or.inr e)) hB4 hl4
          obtain ⟨to, tc, htv, _⟩ := own_slice ht4
          subst htv
          have hX4 : XSt S hb mb lb { b with L := (xrun A s b.L).left } (xrun A s b.L).s es (.slice vao es.length vcap) W wr.heap.size #[.int .i64 6, .int .i64 A, .int .i64 B, .bool ob] (.slice to (xrun A s b.L).told.length tc) (numsOf b.me (xrun A s b.L).told) w4 := ⟨hK4, hr4, by have := ownsRow_mono ht4 (base' := W.heap.size) hlow0; rw [show (numsOf b.me (xrun A s b.L).told).length = (xrun A s b.L).told.length by simp [numsOf]]; exact this, hb4, HBX.out.ne⟩
          have htl : (numsOf b.me (xrun A s b.L).told).length = (xrun A s b.L).told.length := by simp [numsOf]
          have htl2 := htl0
          rw [← htl] at hX4 htl2 ⊢
          have HX4 : Hid _ := hX4
          clear hX4 hK4 hr4 hb4 ht4 hB4 hl4 hc4 HEX HBX hk0 hk1 hk2 d0 d1 d2 d3 htl hlow0 htl0
          generalize wr.heap.size = bx at *
          generalize hb4e : ({ b with L := (xrun A s b.L).left } : BS) = b4 at *
          have HBME : Hid (b4.me = m) := (show b4.me = m from by rw [← hb4e]; exact HBM.out)
          clear hb4e
          generalize (xrun A s b.L).s = s4 at *
          generalize numsOf b.me (xrun A s b.L).told = ts at *
          go_wp2_with fail
          have hel2 : es.length ≤ 101 := by have := HEL.out; omega
          go_loopw [23] (fun j wr' => ∃ q : Nat, q ≤ es.length ∧ j = .int .i64 q ∧ Hid (XSt S hb mb lb b4 s4 (dueTo A q es) (.slice vao es.length vcap) W bx #[.int .i64 6, .int .i64 A, .int .i64 B, .bool ob] (.slice to ts.length tc) ts wr')) (fun j _ => es.length - (intOf j).toNat)
          case atStart => exact ⟨0, Nat.zero_le _, rfl, by rw [dueTo_zero]; exact HX4⟩
          case round =>
            clear HX4
            obtain ⟨q, hq, rfl, HX⟩ := hrel
            by_cases hql : q < es.length
            · obtain ⟨⟨ek, ea, eb, eo⟩, he⟩ : ∃ e, es[q]? = some e := ⟨es[q]'hql, List.getElem?_eq_getElem _⟩
              have hdl := dueTo_length A q es
              have hgt := dueTo_get (now := A) he
              obtain ⟨gr, cr, hv, y0, y1, y2, y3⟩ := row_cells HX.out.row hgt
              rw [hdl] at hv
              simp only [Value.slice.injEq] at hv
              obtain ⟨rfl, _, rfl⟩ := hv
              simp only at y0 y1 y2 y3
              have bxa : wr.cell? ⟨bx, 1, none⟩ = some (.int .i64 A) := HX.out.box.cell 1
              have hti := HTO.out _ (List.mem_of_getElem? he)
              simp only at hti
              have hset : ∀ t, t = (due A ⟨ek, ea, eb, eo⟩).o → ∀ wq, XSt S hb mb lb b4 s4 (dueTo A q es) (.slice (some ⟨gr, 0, none⟩) es.length vcap) W bx #[.int .i64 6, .int .i64 A, .int .i64 B, .bool ob] (.slice to ts.length tc) ts wq → XSt S hb mb lb b4 s4 (dueTo A (q + 1) es) (.slice (some ⟨gr, 0, none⟩) es.length vcap) W bx #[.int .i64 6, .int .i64 A, .int .i64 B, .bool ob] (.slice to ts.length tc) ts (wq.setCell ⟨gr, q * 4 + 3, none⟩ (.bool t)) ∧ wq.frozen? ⟨gr, q * 4 + 3, none⟩ = false := fun t ht wq hw => by
                obtain ⟨h1, h2, _⟩ := hw.set hdl hgt t
                refine ⟨?_, h2⟩
                rw [← dueTo_set he]
                have : ({ (⟨ek, ea, eb, eo⟩ : OpA) with o := t } : OpA) = due A ⟨ek, ea, eb, eo⟩ := by rw [ht]; rfl
                rw [← this]
                exact h1
              have HSET : Hid _ := hset
              have HTI : Hid _ := hti
              clear hset hti hgt hdl he
              cases eo
              · by_cases hdu : ek ≤ A
                · have hin : ea ∈ ts := HTI.out.2 ⟨rfl, hdu⟩
                  have HIN : Hid _ := hin
                  clear hin
                  go_wp2_with fail
                  go_quiet (fail)
                  generalize hY : wr.drewN _ = Y
                  have hXY : XSt S hb mb lb b4 s4 (dueTo A q es) (.slice (some ⟨gr, 0, none⟩) es.length vcap) W bx #[.int .i64 6, .int .i64 A, .int .i64 B, .bool ob] (.slice to ts.length tc) ts Y := by rw [← hY]; exact HX.out.drewN _
                  have HXY : Hid _ := hXY
                  have y1' : Y.cell? ⟨gr, q * 4 + 1, none⟩ = some (.int .i64 ea) := by rw [← hY]; exact y1
                  have y3' : Y.cell? ⟨gr, q * 4 + 3, none⟩ = some (.bool false) := by rw [← hY]; exact y3
                  clear hXY hY HX y0 y1 y2 y3 bxa
                  go_wp2_with fail
                  go_loopw [25, 26] (fun tv kv wr' => ∃ (kk qq : Nat) (tb : Bool), kk ≤ ts.length ∧ kv = .int .i64 kk ∧ tv = .bool tb ∧ Hid (tb = decide (ea ∈ ts.take kk)) ∧ wr' = Y.drewN qq) (fun _ kv _ => ts.length - (intOf kv).toNat)
                  case atStart => exact ⟨0, 0, false, Nat.zero_le _, rfl, rfl, by show false = decide (ea ∈ ts.take 0); simp, rfl⟩
                  case round =>
                    obtain ⟨kk, qq, tb, hkk, rfl, rfl, HTB, hwq⟩ := hrel
                    by_cases hkl : kk < ts.length
                    · obtain ⟨z, hz⟩ : ∃ z, ts[kk]? = some z := ⟨ts[kk]'hkl, List.getElem?_eq_getElem _⟩
                      obtain ⟨to1, tc1, htv1, _, _, htc⟩ := own_read HXY.out.told
                      cases htv1
                      obtain ⟨gt, hgt, _, _, hcc⟩ := htc (by omega)
                      subst hgt
                      have t1 : Y.cell? ⟨gt, kk, none⟩ = some (.int .i64 z) := hcc kk _ (by rw [List.getElem?_map, hz]; rfl)
                      have t2 : (Y.drewN qq).cell? ⟨gt, kk, none⟩ = some (.int .i64 z) := t1
                      have y1q : (Y.drewN qq).cell? ⟨gr, q * 4 + 1, none⟩ = some (.int .i64 ea) := y1'
                      have htk : ts.take (kk + 1) = ts.take kk ++ [z] := by rw [List.take_add_one, hz]; rfl
                      have HTK : Hid _ := htk
                      subst hwq
                      clear hcc htc htk hz
                      cases tb
                      · by_cases hze : z = ea
                        · subst hze
                          have HT2 : Hid (true = decide (z ∈ ts.take (kk + 1))) := (show true = decide (z ∈ ts.take (kk + 1)) from by rw [HTK.out]; simp)
                          clear HTB HTK
                          go_wp2_with fail
                          go_quiet (fail)
                          go_wp2_with fail
                          go_roundw
                          case rel => exact ⟨kk + 1, _, true, by omega, by go_num, rfl, HT2, rfl⟩
                          case measure => simp [intOf]; omega
                        · have hzb : (z == ea) = false := by simpa using hze
                          have HT2 : Hid (false = decide (ea ∈ ts.take (kk + 1))) := (show false = decide (ea ∈ ts.take (kk + 1)) from by
                            have h1 : ¬ ea ∈ ts.take kk := of_decide_eq_false HTB.out.symm
                            have h2 : ¬ ea ∈ ts.take kk ++ [z] := fun h => by
                              rcases List.mem_append.1 h with h | h
                              · exact h1 h
                              · exact hze (List.mem_singleton.1 h).symm
                            rw [HTK.out, decide_eq_false h2])
                          clear HTB HTK hze
                          go_wp2_with fail
                          go_quiet (fail)
                          go_wp2_with fail
                          go_roundw
                          case rel => exact ⟨kk + 1, _, false, by omega, by go_num, rfl, HT2, rfl⟩
                          case measure => simp [intOf]; omega
                      · have HT2 : Hid (true = decide (ea ∈ ts.take (kk + 1))) := (show true = decide (ea ∈ ts.take (kk + 1)) from by
                          have h1 : ea ∈ ts.take kk := of_decide_eq_true HTB.out.symm
                          rw [HTK.out, decide_eq_true (List.mem_append.2 (Or.inl h1))])
                        clear HTB HTK
                        go_wp2_with fail
                        go_quiet (fail)
                        go_wp2_with fail
                        go_roundw
                        case rel => exact ⟨kk + 1, _, true, by omega, by go_num, rfl, HT2, rfl⟩
                        case measure => simp [intOf]; omega
                    · have htb : tb = true := by
                        rw [HTB.out, List.take_of_length_le (by omega)]
                        exact decide_eq_true HIN.out
                      subst htb
                      subst hwq
                      obtain ⟨hX6, fz6⟩ := HSET.out true (by simp [due, hdu]) (Y.drewN qq) (HXY.out.drewN qq)
                      have y3q : (Y.drewN qq).cell? ⟨gr, q * 4 + 3, none⟩ = some (.bool false) := y3'
                      have HX6 : Hid _ := hX6
                      clear hX6 HXY HTB HSET HTI HIN y1' y3'
                      go_wp2_with fail
                      go_roundw
                      case rel => exact ⟨q + 1, by omega, by go_num, HX6⟩
                      case measure => simp [intOf]; omega
                · have hin : ¬ ea ∈ ts := fun h => hdu (HTI.out.1 h).2
                  have HIN : Hid _ := hin
                  clear hin
                  go_wp2_with fail
                  go_quiet (fail)
                  generalize hY : wr.drewN _ = Y
                  have hXY : XSt S hb mb lb b4 s4 (dueTo A q es) (.slice (some ⟨gr, 0, none⟩) es.length vcap) W bx #[.int .i64 6, .int .i64 A, .int .i64 B, .bool ob] (.slice to ts.length tc) ts Y := by rw [← hY]; exact HX.out.drewN _
                  have HXY : Hid _ := hXY
                  have y1' : Y.cell? ⟨gr, q * 4 + 1, none⟩ = some (.int .i64 ea) := by rw [← hY]; exact y1
                  have y3' : Y.cell? ⟨gr, q * 4 + 3, none⟩ = some (.bool false) := by rw [← hY]; exact y3
                  clear hXY hY HX y0 y1 y2 y3 bxa
                  go_wp2_with fail
                  go_loopw [25, 26] (fun tv kv wr' => ∃ (kk qq : Nat) (tb : Bool), kk ≤ ts.length ∧ kv = .int .i64 kk ∧ tv = .bool tb ∧ Hid (tb = decide (ea ∈ ts.take kk)) ∧ wr' = Y.drewN qq) (fun _ kv _ => ts.length - (intOf kv).toNat)
                  case atStart => exact ⟨0, 0, false, Nat.zero_le _, rfl, rfl, by show false = decide (ea ∈ ts.take 0); simp, rfl⟩
                  case round =>
                    obtain ⟨kk, qq, tb, hkk, rfl, rfl, HTB, hwq⟩ := hrel
                    by_cases hkl : kk < ts.length
                    · obtain ⟨z, hz⟩ : ∃ z, ts[kk]? = some z := ⟨ts[kk]'hkl, List.getElem?_eq_getElem _⟩
                      obtain ⟨to1, tc1, htv1, _, _, htc⟩ := own_read HXY.out.told
                      cases htv1
                      obtain ⟨gt, hgt, _, _, hcc⟩ := htc (by omega)
                      subst hgt
                      have t1 : Y.cell? ⟨gt, kk, none⟩ = some (.int .i64 z) := hcc kk _ (by rw [List.getElem?_map, hz]; rfl)
                      have t2 : (Y.drewN qq).cell? ⟨gt, kk, none⟩ = some (.int .i64 z) := t1
                      have y1q : (Y.drewN qq).cell? ⟨gr, q * 4 + 1, none⟩ = some (.int .i64 ea) := y1'
                      have htk : ts.take (kk + 1) = ts.take kk ++ [z] := by rw [List.take_add_one, hz]; rfl
                      have HTK : Hid _ := htk
                      subst hwq
                      clear hcc htc htk hz
                      cases tb
                      · by_cases hze : z = ea
                        · subst hze
                          have HT2 : Hid (true = decide (z ∈ ts.take (kk + 1))) := (show true = decide (z ∈ ts.take (kk + 1)) from by rw [HTK.out]; simp)
                          clear HTB HTK
                          go_wp2_with fail
                          go_quiet (fail)
                          go_wp2_with fail
                          go_roundw
                          case rel => exact ⟨kk + 1, _, true, by omega, by go_num, rfl, HT2, rfl⟩
                          case measure => simp [intOf]; omega
                        · have hzb : (z == ea) = false := by simpa using hze
                          have HT2 : Hid (false = decide (ea ∈ ts.take (kk + 1))) := (show false = decide (ea ∈ ts.take (kk + 1)) from by
                            have h1 : ¬ ea ∈ ts.take kk := of_decide_eq_false HTB.out.symm
                            have h2 : ¬ ea ∈ ts.take kk ++ [z] := fun h => by
                              rcases List.mem_append.1 h with h | h
                              · exact h1 h
                              · exact hze (List.mem_singleton.1 h).symm
                            rw [HTK.out, decide_eq_false h2])
                          clear HTB HTK hze
                          go_wp2_with fail
                          go_quiet (fail)
                          go_wp2_with fail
                          go_roundw
                          case rel => exact ⟨kk + 1, _, false, by omega, by go_num, rfl, HT2, rfl⟩
                          case measure => simp [intOf]; omega
                      · have HT2 : Hid (true = decide (ea ∈ ts.take (kk + 1))) := (show true = decide (ea ∈ ts.take (kk + 1)) from by
                          have h1 : ea ∈ ts.take kk := of_decide_eq_true HTB.out.symm
                          rw [HTK.out, decide_eq_true (List.mem_append.2 (Or.inl h1))])
                        clear HTB HTK
                        go_wp2_with fail
                        go_quiet (fail)
                        go_wp2_with fail
                        go_roundw
                        case rel => exact ⟨kk + 1, _, true, by omega, by go_num, rfl, HT2, rfl⟩
                        case measure => simp [intOf]; omega
                    · have htb : tb = false := by
                        rw [HTB.out, List.take_of_length_le (by omega)]
                        exact decide_eq_false HIN.out
                      subst htb
                      subst hwq
                      obtain ⟨hX6, fz6⟩ := HSET.out (decide (ek ≤ A)) (by simp [due]) (Y.drewN qq) (HXY.out.drewN qq)
                      have y3q : (Y.drewN qq).cell? ⟨gr, q * 4 + 3, none⟩ = some (.bool false) := y3'
                      have HX6 : Hid _ := hX6
                      clear hX6 HXY HTB HSET HTI HIN y1' y3'
                      go_wp2_with fail
                      go_roundw
                      case rel => exact ⟨q + 1, by omega, by go_num, HX6⟩
                      case measure => simp [intOf]; omega
              · have hin : ¬ ea ∈ ts := fun h => by have := (HTI.out.1 h).1; cases this
                have HIN : Hid _ := hin
                clear hin
                go_wp2_with fail
                go_quiet (fail)
                generalize hY : wr.drewN _ = Y
                have hXY : XSt S hb mb lb b4 s4 (dueTo A q es) (.slice (some ⟨gr, 0, none⟩) es.length vcap) W bx #[.int .i64 6, .int .i64 A, .int .i64 B, .bool ob] (.slice to ts.length tc) ts Y := by rw [← hY]; exact HX.out.drewN _
                have HXY : Hid _ := hXY
                have y1' : Y.cell? ⟨gr, q * 4 + 1, none⟩ = some (.int .i64 ea) := by rw [← hY]; exact y1
                have y3' : Y.cell? ⟨gr, q * 4 + 3, none⟩ = some (.bool true) := by rw [← hY]; exact y3
                clear hXY hY HX y0 y1 y2 y3 bxa
                go_wp2_with fail
                go_loopw [25, 26] (fun tv kv wr' => ∃ (kk qq : Nat) (tb : Bool), kk ≤ ts.length ∧ kv = .int .i64 kk ∧ tv = .bool tb ∧ Hid (tb = decide (ea ∈ ts.take kk)) ∧ wr' = Y.drewN qq) (fun _ kv _ => ts.length - (intOf kv).toNat)
                case atStart => exact ⟨0, 0, false, Nat.zero_le _, rfl, rfl, by show false = decide (ea ∈ ts.take 0); simp, rfl⟩
                case round =>
                  obtain ⟨kk, qq, tb, hkk, rfl, rfl, HTB, hwq⟩ := hrel
                  by_cases hkl : kk < ts.length
                  · obtain ⟨z, hz⟩ : ∃ z, ts[kk]? = some z := ⟨ts[kk]'hkl, List.getElem?_eq_getElem _⟩
                    obtain ⟨to1, tc1, htv1, _, _, htc⟩ := own_read HXY.out.told
                    cases htv1
                    obtain ⟨gt, hgt, _, _, hcc⟩ := htc (by omega)
                    subst hgt
                    have t1 : Y.cell? ⟨gt, kk, none⟩ = some (.int .i64 z) := hcc kk _ (by rw [List.getElem?_map, hz]; rfl)
                    have t2 : (Y.drewN qq).cell? ⟨gt, kk, none⟩ = some (.int .i64 z) := t1
                    have y1q : (Y.drewN qq).cell? ⟨gr, q * 4 + 1, none⟩ = some (.int .i64 ea) := y1'
                    have htk : ts.take (kk + 1) = ts.take kk ++ [z] := by rw [List.take_add_one, hz]; rfl
                    have HTK : Hid _ := htk
                    subst hwq
                    clear hcc htc htk hz
                    cases tb
                    · by_cases hze : z = ea
                      · subst hze
                        have HT2 : Hid (true = decide (z ∈ ts.take (kk + 1))) := (show true = decide (z ∈ ts.take (kk + 1)) from by rw [HTK.out]; simp)
                        clear HTB HTK
                        go_wp2_with fail
                        go_quiet (fail)
                        go_wp2_with fail
                        go_roundw
                        case rel => exact ⟨kk + 1, _, true, by omega, by go_num, rfl, HT2, rfl⟩
                        case measure => simp [intOf]; omega
                      · have hzb : (z == ea) = false := by simpa using hze
                        have HT2 : Hid (false = decide (ea ∈ ts.take (kk + 1))) := (show false = decide (ea ∈ ts.take (kk + 1)) from by
                          have h1 : ¬ ea ∈ ts.take kk := of_decide_eq_false HTB.out.symm
                          have h2 : ¬ ea ∈ ts.take kk ++ [z] := fun h => by
                            rcases List.mem_append.1 h with h | h
                            · exact h1 h
                            · exact hze (List.mem_singleton.1 h).symm
                          rw [HTK.out, decide_eq_false h2])
                        clear HTB HTK hze
                        go_wp2_with fail
                        go_quiet (fail)
                        go_wp2_with fail
                        go_roundw
                        case rel => exact ⟨kk + 1, _, false, by omega, by go_num, rfl, HT2, rfl⟩
                        case measure => simp [intOf]; omega
                    · have HT2 : Hid (true = decide (ea ∈ ts.take (kk + 1))) := (show true = decide (ea ∈ ts.take (kk + 1)) from by
                        have h1 : ea ∈ ts.take kk := of_decide_eq_true HTB.out.symm
                        rw [HTK.out, decide_eq_true (List.mem_append.2 (Or.inl h1))])
                      clear HTB HTK
                      go_wp2_with fail
                      go_quiet (fail)
                      go_wp2_with fail
                      go_roundw
                      case rel => exact ⟨kk + 1, _, true, by omega, by go_num, rfl, HT2, rfl⟩
                      case measure => simp [intOf]; omega
                  · have htb : tb = false := by
                      rw [HTB.out, List.take_of_length_le (by omega)]
                      exact decide_eq_false HIN.out
                    subst htb
                    subst hwq
                    obtain ⟨hX6, fz6⟩ := HSET.out true (by simp [due]) (Y.drewN qq) (HXY.out.drewN qq)
                    have y3q : (Y.drewN qq).cell? ⟨gr, q * 4 + 3, none⟩ = some (.bool true) := y3'
                    have HX6 : Hid _ := hX6
                    clear hX6 HXY HTB HSET HTI HIN y1' y3'
                    go_wp2_with fail
                    go_roundw
                    case rel => exact ⟨q + 1, by omega, by go_num, HX6⟩
                    case measure => simp [intOf]; omega
            · obtain rfl : q = es.length := by omega
              have hC : OSt S hb mb lb b4 s4 (es.map (due A)) (.slice vao es.length vcap) W wr := ⟨HX.out.bk, HOIX.out, by have := HX.out.row; rw [dueTo_length, dueTo_all] at this; rw [List.length_map]; exact this⟩
              have hls : es.length = (es.map (due A)).length := by rw [List.length_map]
              have HEL1 : Hid ((es.map (due A)).length ≤ k + 1) := (show (es.map (due A)).length ≤ k + 1 from by rw [List.length_map]; have := HEL.out; omega)
              have HBM1 : Hid _ := HBME.out
              rw [hls] at hC ⊢
              have HC : Hid _ := hC
              clear hC hls HX HTO HOIX hel2
              generalize es.map (due A) = es6 at *
              go_wp2_with fail
              skip
              have hel1 : (es6).length ≤ 101 := by have := HEL1.out; omega
              go_loopw [27, 28, 29] (fun sm cn j wr' => ∃ q : Nat, q ≤ (es6).length ∧ j = .int .i64 q ∧ sm = .int .i64 (sumH (liv ((es6).take q))) ∧ cn = .int .i64 ((liv ((es6).take q)).length : Nat) ∧ wr' = wr) (fun _ _ j _ => (es6).length - (intOf j).toNat)
              case atStart => exact ⟨0, Nat.zero_le _, rfl, by simp [liv, sumH], by simp [liv], rfl⟩
              case round =>
                obtain ⟨q, hq, rfl, rfl, rfl, rfl⟩ := hrel
                by_cases hql : q < (es6).length
                · obtain ⟨⟨ek, ea, eb, eo⟩, he⟩ : ∃ e, (es6)[q]? = some e := ⟨(es6)[q]'hql, List.getElem?_eq_getElem _⟩
                  obtain ⟨gr, cr, hv, y0, y1, y2, y3⟩ := HC.out.cells he
                  have hlv := liv_take he
                  have hs1 := sum_take HC.out.oi q
                  have hs2 := sum_take HC.out.oi (q + 1)
                  simp only at y0 y1 y2 y3
                  simp only [Value.slice.injEq] at hv
                  obtain ⟨rfl, _, rfl⟩ := hv
                  cases eo
                  · rw [liv_yes _ _ rfl] at hlv
                    have hsm : sumH (liv ((es6).take (q + 1))) = sumH (liv ((es6).take q)) + eb := by rw [hlv, sumH_append]; simp [sumH, liv, toHd]
                    have hcn : (liv ((es6).take (q + 1))).length = (liv ((es6).take q)).length + 1 := by rw [hlv]; simp [liv]
                    have hll : (liv ((es6).take q)).length ≤ 100 := by have := List.length_filter_le (fun e : OpA => !e.o) ((es6).take q); have := List.length_take_le q (es6); have := HEL1.out; simp only [liv, List.length_map]; omega
                    have hwa : IntKind.i64.wrap (sumH (liv ((es6).take q)) + eb) = sumH (liv ((es6).take q)) + eb := by rw [IntKind.wrap_i64]; omega
                    have HSM : Hid _ := hsm
                    have HCN : Hid _ := hcn
                    clear hlv hs1 hs2 hsm hcn he
                    go_wp2_with fail
                    go_roundw
                    case rel => exact ⟨q + 1, by omega, by go_num, by rw [HSM.out], by rw [HCN.out]; go_num, by first | rfl | trivial⟩
                    case measure => simp [intOf]; omega
                  · rw [liv_no _ _ rfl] at hlv
                    have hlv2 : liv ((es6).take (q + 1)) = liv ((es6).take q) := by rw [hlv]; simp [liv]
                    have HLV : Hid _ := hlv2
                    clear hlv hlv2 hs1 hs2 he
                    go_wp2_with fail
                    go_roundw
                    case rel => exact ⟨q + 1, by omega, by go_num, by rw [HLV.out], by rw [HLV.out], by first | rfl | trivial⟩
                    case measure => simp [intOf]; omega
                · have hqq : q = (es6).length := by omega
                  have hLq : (b4).L = liv ((es6).take q) := by rw [List.take_of_length_le (by omega)]; exact HC.out.oi.L
                  have f1 : sumH (b4).L = sumH (liv ((es6).take q)) := by rw [hLq]
                  have f2 : (b4).L.length = (liv ((es6).take q)).length := by rw [hLq]
                  have f3 : (s4).h = sumH (liv ((es6).take q)) := HC.out.oi.held.trans f1
                  have f4 : (s4).d + (s4).u + sumH (liv ((es6).take q)) = 700 := by rw [← f3]; exact HC.out.oi.tot
                  have g1 := HC.out.oi.sok.d0
                  have g2 := HC.out.oi.sok.u0
                  have g3 : 0 ≤ sumH (liv ((es6).take q)) := (sum_take HC.out.oi q).1
                  have F1 : Hid _ := f1
                  have F2 : Hid _ := f2
                  have F3 : Hid _ := f3
                  have HRI : Hid _ := rights_any _ HC.out.bk.led
                  clear hLq f1 f2 f3
                  generalize sumH (liv ((es6).take q)) = sm at *
                  generalize (liv ((es6).take q)).length = cn at *
                  go_wp2_with fail
                  refine Calls.mono HRI.out ?_
                  rintro e w5 ⟨rfl, hb5⟩
                  have hgr : Below w5.heap.size w5 (w5.alloc (.cells #[.int .i64 (s4).d, .int .i64 (s4).u] 42)) := (Below.refl _ _).alloc (Nat.le_refl _) _
                  have hO5 := (HC.out.more hb5).more hgr
                  have hbx : Blk (w5.alloc (.cells #[.int .i64 (s4).d, .int .i64 (s4).u] 42)) w5.heap.size #[.int .i64 (s4).d, .int .i64 (s4).u] 42 := heap_alloc_new w5 _
                  have hsu := sum_any _ hO5.bk.bk hO5.oi.bok
                  rw [F1.out] at hsu
                  have HSU : Hid _ := hsu
                  have HO5 : Hid _ := hO5
                  have HBX5 : Hid _ := hbx
                  clear hb5 hgr hO5 hbx hsu HRI
                  go_wp2_with fail
                  refine Calls.mono HSU.out ?_
                  rintro e w7 ⟨rfl, hb7⟩
                  have hO7 := HO5.out.more hb7
                  have hbx7 := Blk.below HBX5.out hb7 (Blk.lt HBX5.out)
                  have hhe := held_any w7 hO7.bk.led
                  rw [F3.out] at hhe
                  have HHE : Hid _ := hhe
                  have HNU : Hid _ := numbers_any w7 hO7.bk.bk hO7.oi.bok (by have := hO7.oi.mad; omega)
                  have HO7 : Hid _ := hO7
                  have HBX7 : Hid _ := hbx7
                  clear hb7 hO7 hbx7 hhe HSU HO5 HBX5
                  go_wp2_with fail
                  refine Calls.mono HHE.out ?_
                  rintro e w8 ⟨rfl, hw8⟩
                  replace hw8 := hw8.symm
                  subst hw8
                  go_wp2_with fail
                  refine Calls.mono HNU.out ?_
                  rintro e w9 ⟨v9, rfl, ho9, hb9⟩
                  rw [F2.out] at ho9
                  obtain ⟨ao9, c9, hv9, _⟩ := own_slice ho9
                  subst hv9
                  have hO9 := HO7.out.more hb9
                  have hbx9 := Blk.below HBX7.out hb9 (Blk.lt HBX7.out)
                  have z0 : w9.cell? ⟨w5.heap.size, 0, none⟩ = some (.int .i64 (s4).d) := Blk.cell hbx9 0
                  have z1 : w9.cell? ⟨w5.heap.size, 1, none⟩ = some (.int .i64 (s4).u) := Blk.cell hbx9 1
                  have hw1 : IntKind.i64.wrap ((s4).d + (s4).u) = (s4).d + (s4).u := by rw [IntKind.wrap_i64]; omega
                  have hw2 : IntKind.i64.wrap ((s4).d + (s4).u + sm) = 700 := by rw [f4]; rfl
                  have HN : Hid _ := (show ORel S hb mb lb m (k + 1) (.slice vao es6.length vcap) W w9 from ⟨_, _, _, hO9, HEL1.out, HBM1.out⟩)
                  clear ho9 hb9 hO9 hbx9 HHE HNU HO7 HBX7
                  go_wp2_with fail
                  go_roundw
                  case rel => exact ⟨k + 1, by omega, by go_num, HN.out⟩
                  case measure => simp [intOf]; omega
      · as_aux_lemma =>
          have HBM1 : Hid _ := HBM.out
          have HC : Hid _ := HBX.out.st
          have HEL1 : Hid _ := (show es.length ≤ k + 1 from by have := HEL.out; omega)
          go_wp2_with fail
          generalize wr.alloc (.cells #[.int .i64 K, .int .i64 A, .int .i64 B, .bool ob] 29) = X at *
          have hel1 : (es).length ≤ 101 := by have := HEL1.out; omega
          go_loopw [27, 28, 29] (fun sm cn j wr' => ∃ q : Nat, q ≤ (es).length ∧ j = .int .i64 q ∧ sm = .int .i64 (sumH (liv ((es).take q))) ∧ cn = .int .i64 ((liv ((es).take q)).length : Nat) ∧ wr' = X) (fun _ _ j _ => (es).length - (intOf j).toNat)
          case atStart => exact ⟨0, Nat.zero_le _, rfl, by simp [liv, sumH], by simp [liv], rfl⟩
          case round =>
            obtain ⟨q, hq, rfl, rfl, rfl, rfl⟩ := hrel
            by_cases hql : q < (es).length
            · obtain ⟨⟨ek, ea, eb, eo⟩, he⟩ : ∃ e, (es)[q]? = some e := ⟨(es)[q]'hql, List.getElem?_eq_getElem _⟩
              obtain ⟨gr, cr, hv, y0, y1, y2, y3⟩ := HC.out.cells he
              have hlv := liv_take he
              have hs1 := sum_take HC.out.oi q
              have hs2 := sum_take HC.out.oi (q + 1)
              simp only at y0 y1 y2 y3
              simp only [Value.slice.injEq] at hv
              obtain ⟨rfl, _, rfl⟩ := hv
              cases eo
              · rw [liv_yes _ _ rfl] at hlv
                have hsm : sumH (liv ((es).take (q + 1))) = sumH (liv ((es).take q)) + eb := by rw [hlv, sumH_append]; simp [sumH, liv, toHd]
                have hcn : (liv ((es).take (q + 1))).length = (liv ((es).take q)).length + 1 := by rw [hlv]; simp [liv]
                have hll : (liv ((es).take q)).length ≤ 100 := by have := List.length_filter_le (fun e : OpA => !e.o) ((es).take q); have := List.length_take_le q (es); have := HEL1.out; simp only [liv, List.length_map]; omega
                have hwa : IntKind.i64.wrap (sumH (liv ((es).take q)) + eb) = sumH (liv ((es).take q)) + eb := by rw [IntKind.wrap_i64]; omega
                have HSM : Hid _ := hsm
                have HCN : Hid _ := hcn
                clear hlv hs1 hs2 hsm hcn he
                go_wp2_with fail
                go_roundw
                case rel => exact ⟨q + 1, by omega, by go_num, by rw [HSM.out], by rw [HCN.out]; go_num, by first | rfl | trivial⟩
                case measure => simp [intOf]; omega
              · rw [liv_no _ _ rfl] at hlv
                have hlv2 : liv ((es).take (q + 1)) = liv ((es).take q) := by rw [hlv]; simp [liv]
                have HLV : Hid _ := hlv2
                clear hlv hlv2 hs1 hs2 he
                go_wp2_with fail
                go_roundw
                case rel => exact ⟨q + 1, by omega, by go_num, by rw [HLV.out], by rw [HLV.out], by first | rfl | trivial⟩
                case measure => simp [intOf]; omega
            · have hqq : q = (es).length := by omega
              have hLq : (b).L = liv ((es).take q) := by rw [List.take_of_length_le (by omega)]; exact HC.out.oi.L
              have f1 : sumH (b).L = sumH (liv ((es).take q)) := by rw [hLq]
              have f2 : (b).L.length = (liv ((es).take q)).length := by rw [hLq]
              have f3 : (s).h = sumH (liv ((es).take q)) := HC.out.oi.held.trans f1
              have f4 : (s).d + (s).u + sumH (liv ((es).take q)) = 700 := by rw [← f3]; exact HC.out.oi.tot
              have g1 := HC.out.oi.sok.d0
              have g2 := HC.out.oi.sok.u0
              have g3 : 0 ≤ sumH (liv ((es).take q)) := (sum_take HC.out.oi q).1
              have F1 : Hid _ := f1
              have F2 : Hid _ := f2
              have F3 : Hid _ := f3
              have HRI : Hid _ := rights_any _ HC.out.bk.led
              clear hLq f1 f2 f3
              generalize sumH (liv ((es).take q)) = sm at *
              generalize (liv ((es).take q)).length = cn at *
              go_wp2_with fail
              refine Calls.mono HRI.out ?_
              rintro e w5 ⟨rfl, hb5⟩
              have hgr : Below w5.heap.size w5 (w5.alloc (.cells #[.int .i64 (s).d, .int .i64 (s).u] 42)) := (Below.refl _ _).alloc (Nat.le_refl _) _
              have hO5 := (HC.out.more hb5).more hgr
              have hbx : Blk (w5.alloc (.cells #[.int .i64 (s).d, .int .i64 (s).u] 42)) w5.heap.size #[.int .i64 (s).d, .int .i64 (s).u] 42 := heap_alloc_new w5 _
              have hsu := sum_any _ hO5.bk.bk hO5.oi.bok
              rw [F1.out] at hsu
              have HSU : Hid _ := hsu
              have HO5 : Hid _ := hO5
              have HBX5 : Hid _ := hbx
              clear hb5 hgr hO5 hbx hsu HRI
              go_wp2_with fail
              refine Calls.mono HSU.out ?_
              rintro e w7 ⟨rfl, hb7⟩
              have hO7 := HO5.out.more hb7
              have hbx7 := Blk.below HBX5.out hb7 (Blk.lt HBX5.out)
              have hhe := held_any w7 hO7.bk.led
              rw [F3.out] at hhe
              have HHE : Hid _ := hhe
              have HNU : Hid _ := numbers_any w7 hO7.bk.bk hO7.oi.bok (by have := hO7.oi.mad; omega)
              have HO7 : Hid _ := hO7
              have HBX7 : Hid _ := hbx7
              clear hb7 hO7 hbx7 hhe HSU HO5 HBX5
              go_wp2_with fail
              refine Calls.mono HHE.out ?_
              rintro e w8 ⟨rfl, hw8⟩
              replace hw8 := hw8.symm
              subst hw8
              go_wp2_with fail
              refine Calls.mono HNU.out ?_
              rintro e w9 ⟨v9, rfl, ho9, hb9⟩
              rw [F2.out] at ho9
              obtain ⟨ao9, c9, hv9, _⟩ := own_slice ho9
              subst hv9
              have hO9 := HO7.out.more hb9
              have hbx9 := Blk.below HBX7.out hb9 (Blk.lt HBX7.out)
              have z0 : w9.cell? ⟨w5.heap.size, 0, none⟩ = some (.int .i64 (s).d) := Blk.cell hbx9 0
              have z1 : w9.cell? ⟨w5.heap.size, 1, none⟩ = some (.int .i64 (s).u) := Blk.cell hbx9 1
              have hw1 : IntKind.i64.wrap ((s).d + (s).u) = (s).d + (s).u := by rw [IntKind.wrap_i64]; omega
              have hw2 : IntKind.i64.wrap ((s).d + (s).u + sm) = 700 := by rw [f4]; rfl
              have HN : Hid _ := (show ORel S hb mb lb m (k + 1) (.slice vao es.length vcap) W w9 from ⟨_, _, _, hO9, HEL1.out, HBM1.out⟩)
              clear ho9 hb9 hO9 hbx9 HHE HNU HO7 HBX7
              go_wp2_with fail
              go_roundw
              case rel => exact ⟨k + 1, by omega, by go_num, HN.out⟩
              case measure => simp [intOf]; omega
    · have HF : Hid _ := hO.bk.bel
      clear hO
      go_wp2_with fail
      go_ret
      exact ⟨rfl, HF.out⟩
end Go.Proofs.YtkdndfdofhnagaaDoor
