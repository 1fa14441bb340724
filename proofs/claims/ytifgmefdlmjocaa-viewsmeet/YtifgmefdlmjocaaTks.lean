import Derived.Test.YtifgmefdlmjocaaLnd
namespace Go.Proofs.Ytifgmefdlmjocaa
open Go.RowKit Go.PlainAid Go.MapKept
set_option linter.unusedVariables false
set_option linter.unusedSimpArgs false
def badE : Ent := ⟨0, [107], 5, 0, 1125899906842624, 6, 0, 0⟩
theorem bad_sane : badE.sane := ⟨by decide, by decide, by decide, by decide⟩
/-- A pair within a call that began at w: the program's views, the document's, the box. -/
structure PSt (L0 pb hb mb rb : Nat) (me N : Int) (C : Array Value) (v0 v : Value) (L A : List Ent) (w wr : World) : Prop where
  box : Blk wr pb C 68
  vw : Vw hb mb me N L wr
  rv : RVw L0 rb me N v A wr
  chg : Chg (fun k => k = mb ∨ k = rb ∨ v0.ownBlock = some k) w wr
  at' : ∀ g, v.ownBlock = some g → v0.ownBlock = some g ∨ w.heap.size ≤ g
section
variable {L0 pb hb mb rb : Nat} {me N : Int} {C : Array Value} {v0 v : Value} {L A : List Ent} {w wr w2 : World}
theorem RVw.own_ne {b : Nat} {D : Array Value} {T : TypeId} (h : RVw L0 rb me N v A wr) (hB : Blk wr b D T) (hT : T ≠ 133) : v.ownBlock ≠ some b := fun hh => by
  obtain ⟨cu, hcu⟩ := ownsRow_type h.row hh
  exact Blk.ne_t hB (show Blk wr b cu 133 from hcu) hT rfl
theorem PSt.start (hB : Blk w pb C 68) (hV : Vw hb mb me N L w) (hR : RVw L0 rb me N v A w) : PSt L0 pb hb mb rb me N C v v L A w w := ⟨hB, hV, hR, Chg.refl _ _, fun g hg => Or.inl hg⟩
theorem PSt.more (h : PSt L0 pb hb mb rb me N C v0 v L A w wr) (hb' : Below wr.heap.size wr w2) : PSt L0 pb hb mb rb me N C v0 v L A w w2 :=
  ⟨h.box.below hb' h.box.lt, h.vw.more hb', h.rv.more hb', h.chg.trans (Chg.ofBelow (fun _ => False) hb') (fun _ _ e => e.elim), h.at'⟩
theorem PSt.take {L' : List Ent} (h : PSt L0 pb hb mb rb me N C v0 v L A w wr) (hV : Vw hb mb me N L' w2) (hc : Chg (fun k => k = mb) wr w2) : PSt L0 pb hb mb rb me N C v0 v L' A w w2 := by
  refine ⟨hc.blk h.box (h.vw.map.ne_b h.box), hV, h.rv.keep (hc.block rb h.rv.blk.lt (h.vw.map.ne_b h.rv.blk)) (fun g hg => hc.block g (ownsRow_lt h.rv.row hg).2 (fun e => ?_)), h.chg.trans hc (fun _ _ e => Or.inl e), h.at'⟩
  obtain ⟨cu, hcu⟩ := ownsRow_type h.rv.row hg
  exact h.vw.map.ne_b (show Blk wr g cu 133 from hcu) e
theorem PSt.rtake {A' : List Ent} (h : PSt L0 pb hb mb rb me N C v0 v L A w wr) (hP : RPost L0 rb me N v A' wr w2) : ∃ v', PSt L0 pb hb mb rb me N C v0 v' L A' w w2 := by
  obtain ⟨⟨v', hV, hat⟩, hc⟩ := hP
  refine ⟨v', hc.blk h.box (fun e => ?_), h.vw.keep hc (fun e => ?_) (fun e => ?_), hV, h.chg.trans hc (fun j hj e => ?_), fun g hg => ?_⟩
  · rcases e with e | e
    · exact Blk.ne_t h.box h.rv.blk (by decide) e
    · exact h.rv.own_ne h.box (by decide) e
  · rcases e with e | e
    · exact Blk.ne_t h.vw.blk h.rv.blk (by decide) e
    · exact h.rv.own_ne h.vw.blk (by decide) e
  · rcases e with e | e
    · exact h.vw.map.ne_b h.rv.blk e.symm
    · obtain ⟨cu, hcu⟩ := ownsRow_type h.rv.row e
      exact h.vw.map.ne_b (show Blk wr mb cu 133 from hcu) rfl
  · rcases e with e | e
    · exact Or.inr (Or.inl e)
    · rcases h.at' j e with h1 | h1
      · exact Or.inr (Or.inr h1)
      · omega
  · rcases hat g hg with h1 | h1
    · exact h.at' g h1
    · exact Or.inr (Nat.le_trans h.chg.size h1)
theorem PSt.row {base n : Nat} {xv : Value} {xs : List Value} (h : PSt L0 pb hb mb rb me N C v0 v L A w wr) (hx : wr.ownsRow base 46 7 xv n xs) : (∀ g, xv.ownBlock = some g → g ≠ pb ∧ g ≠ hb ∧ g ≠ mb ∧ g ≠ rb ∧ v.ownBlock ≠ some g) := fun g hg => by
  obtain ⟨cu, hcu⟩ := ownsRow_type hx hg
  have hB : Blk wr g cu 46 := hcu
  exact ⟨hB.ne_t h.box (by decide), hB.ne_t h.vw.blk (by decide), h.vw.map.ne_b hB, hB.ne_t h.rv.blk (by decide), h.rv.own_ne hB (by decide)⟩
theorem PSt.rowTake {base n : Nat} {xv : Value} {xs : List Value} (h : PSt L0 pb hb mb rb me N C v0 v L A w wr) (hx : wr.ownsRow base 46 7 xv n xs) (hc : Chg (fun k => k = mb) wr w2) : w2.ownsRow base 46 7 xv n xs := ownsRow_same hx (fun g hg => hc.block g (ownsRow_lt hx hg).2 (h.row hx g hg).2.2.1)
theorem PSt.rowRtake {base n : Nat} {xv : Value} {xs : List Value} {A' : List Ent} (h : PSt L0 pb hb mb rb me N C v0 v L A w wr) (hx : wr.ownsRow base 46 7 xv n xs) (hP : RPost L0 rb me N v A' wr w2) : w2.ownsRow base 46 7 xv n xs := ownsRow_same hx (fun g hg => hP.chg.block g (ownsRow_lt hx hg).2 (fun e => e.elim (h.row hx g hg).2.2.2.1 (h.row hx g hg).2.2.2.2))
theorem PSt.rowSet {base n : Nat} {xv : Value} {xs : List Value} (h : PSt L0 pb hb mb rb me N C v0 v L A w wr) (hx : wr.ownsRow base 46 7 xv n xs) (hb' : w.heap.size ≤ base) (hc : Chg (fun k => xv.ownBlock = some k) wr w2) : PSt L0 pb hb mb rb me N C v0 v L A w w2 := by
  refine ⟨hc.blk h.box (fun e => (h.row hx pb e).1 rfl), h.vw.keep hc (fun e => (h.row hx hb e).2.1 rfl) (fun e => (h.row hx mb e).2.2.1 rfl), h.rv.keep (hc.block rb h.rv.blk.lt (fun e => (h.row hx rb e).2.2.2.1 rfl)) (fun g hg => hc.block g (ownsRow_lt h.rv.row hg).2 (fun e => (h.row hx g e).2.2.2.2 hg)), h.chg.trans hc (fun j hj e => ?_), h.at'⟩
  have := (ownsRow_lt hx e).1
  omega
theorem PSt.from {la : Option Addr} {es : List Ent} (h : PSt L0 pb hb mb rb me N C v0 v L A w wr) (hf : FromV w la es) (hfb : 0 < es.length → ∀ b off, la = some ⟨b, off, none⟩ → b < w.heap.size ∧ b ≠ mb ∧ b ≠ rb ∧ v0.ownBlock ≠ some b) : FromV wr la es := by
  intro h0
  obtain ⟨b, off, e, hc⟩ := hf h0
  have hlt := (hc 0 _ (List.getElem?_eq_getElem h0)).lt
  obtain ⟨_, h1, h2, h3⟩ := hfb h0 b off e
  exact ⟨b, off, e, fun i x hx => (hc i x hx).keep (h.chg.block b hlt (fun hh => hh.elim h1 (fun hh => hh.elim h2 h3)))⟩
theorem PSt.fromNe {la : Option Addr} {K : Nat} (h : PSt L0 pb hb mb rb me N C v0 v L A w wr) (hfb : 0 < K → ∀ b off, la = some ⟨b, off, none⟩ → b < w.heap.size ∧ b ≠ mb ∧ b ≠ rb ∧ v0.ownBlock ≠ some b) : 0 < K → ∀ b off, la = some ⟨b, off, none⟩ → b ≠ rb ∧ v.ownBlock ≠ some b := fun hK b off e => by
  refine ⟨(hfb hK b off e).2.2.1, fun hh => ?_⟩
  rcases h.at' b hh with h1 | h1
  · exact (hfb hK b off e).2.2.2 h1
  · have := (hfb hK b off e).1; omega
end
theorem fromV_pre {w : World} {ao : Option Addr} {es fs : List Ent} (h : FromV w ao (es ++ fs)) : FromV w ao es := fun h0 => by
  obtain ⟨b, off, e, hc⟩ := h (by simp; omega)
  exact ⟨b, off, e, fun i x hx => hc i x (by rw [List.getElem?_append_left (List.getElem?_eq_some_iff.1 hx).1]; exact hx)⟩
theorem flatV_set (es : List Ent) (i : Nat) (e : Ent) (hi : i < es.length) : (((((((flatV es).set (i * 7) (.string ⟨e.n.toArray⟩)).set (i * 7 + 1) (.int .i64 e.c)).set (i * 7 + 2) (.int .i64 e.rc)).set (i * 7 + 3) (.int .i64 e.v)).set (i * 7 + 4) (.int .i64 e.d)).set (i * 7 + 5) (.int .i64 e.u)).set (i * 7 + 6) (.int .i64 e.h) = flatV (es.set i e) := by
  induction es generalizing i with
  | nil => simp at hi
  | cons x t ih =>
    cases i with
    | zero => simp [flatV, Ent.cs]
    | succ i =>
      have h1 := ih i (by simpa using hi)
      have e1 : flatV (x :: t) = x.cs ++ flatV t := rfl
      have hl : x.cs.length = 7 := rfl
      have key : ∀ (l : List Value) (j : Nat) (u : Value), (x.cs ++ l).set ((i + 1) * 7 + j) u = x.cs ++ l.set (i * 7 + j) u := fun l j u => by
        rw [List.set_append_right _ _ (by rw [hl]; omega), hl]
        congr 2
        omega
      have key0 : ∀ (l : List Value) (u : Value), (x.cs ++ l).set ((i + 1) * 7) u = x.cs ++ l.set (i * 7) u := fun l u => key l 0 u
      rw [e1, key0, key, key, key, key, key, key, h1]
      rfl
/-- What a call of the pair leaves. -/
def PPost (L0 hb mb rb : Nat) (me N : Int) (v : Value) (M : Nat) (w w' : World) : Prop := ∃ v' L' A', Vw hb mb me N L' w' ∧ RVw L0 rb me N v' A' w' ∧ AgC me M L' A' ∧ A'.length ≤ 128 * M ∧ Chg (fun k => k = mb ∨ k = rb ∨ v.ownBlock = some k) w w' ∧ ∀ g, v'.ownBlock = some g → v.ownBlock = some g ∨ w.heap.size ≤ g
theorem rep_one (n : Nat) : ∀ u ∈ flatV (List.replicate n badE), u.oneCell' = true := fun u hu => by
  unfold flatV at hu
  rw [List.mem_flatMap] at hu
  obtain ⟨e, he, hu⟩ := hu
  have := List.eq_of_mem_replicate he
  subst this
  have h9 : (badE.cs).all (·.oneCell') = true := by simp [Ent.cs, badE, Value.oneCell']
  exact List.all_eq_true.1 h9 u hu
set_option maxRecDepth 100000 in
set_option maxHeartbeats 12800000 in
theorem takes_any {L0 pb hb mb rb M : Nat} {me N : Int} {dg kn bk v : Value} {L A : List Ent} (r : Int) (la : Option Addr) (KK lcap : Nat) (es : List Ent) (w : World) (hP : Blk w pb #[.pointer (some ⟨hb, 0, none⟩), .pointer (some ⟨rb, 0, none⟩), dg, kn, bk] 68) (hV : Vw hb mb me N L w) (hR : RVw L0 rb me N v A w) (hag : AgC me M L A) (hA : A.length ≤ 128 * M) (hM : M ≤ 300)
    (hl : es.length = KK) (hK : (KK + 2) * 64 ≤ 140737488355328) (hf : FromV w la es) (hs : ∀ e ∈ es, e.sane) (hfb : 0 < KK → ∀ b off, la = some ⟨b, off, none⟩ → b < w.heap.size ∧ b ≠ mb ∧ b ≠ rb ∧ v.ownBlock ≠ some b) :
    Calls Try.prog 42 #[.pointer (some ⟨pb, 0, none⟩), .int .i64 r, .slice la KK lcap] w fun e w' => e = .returned (.bool true) ∧ PPost L0 hb mb rb me N v (M + 1) w w' := by
  have HL : Hid (es.length = KK) := hl
  have HF : Hid (FromV w la es) := hf
  have HS : Hid (∀ e ∈ es, e.sane) := hs
  have HFB : Hid (0 < KK → ∀ b off, la = some ⟨b, off, none⟩ → b < w.heap.size ∧ b ≠ mb ∧ b ≠ rb ∧ v.ownBlock ≠ some b) := hfb
  have HFE : Hid (0 < es.length → ∀ b off, la = some ⟨b, off, none⟩ → b < w.heap.size ∧ b ≠ mb ∧ b ≠ rb ∧ v.ownBlock ≠ some b) := show 0 < es.length → ∀ b off, la = some ⟨b, off, none⟩ → b < w.heap.size ∧ b ≠ mb ∧ b ≠ rb ∧ v.ownBlock ≠ some b from by rw [hl]; exact hfb
  have HS0 : Hid (PSt L0 pb hb mb rb me N #[.pointer (some ⟨hb, 0, none⟩), .pointer (some ⟨rb, 0, none⟩), dg, kn, bk] v v L A w w) := PSt.start hP hV hR
  obtain ⟨t1, t2, hag1, hA1⟩ := hag.take N r es
  have HAG1 : Hid (AgC me M (takeNext me N r L es).1 (rtakeNext me N r A es).1) := hag1
  obtain ⟨s1, s2, hag2, hA2⟩ := hag1.take N r (List.replicate KK badE)
  have HAG2 : Hid (AgC me M (takeNext me N r (takeNext me N r L es).1 (List.replicate KK badE)).1 (rtakeNext me N r (rtakeNext me N r A es).1 (List.replicate KK badE)).1) := hag2
  have HLL : Hid (L.length ≤ 80000 ∧ (takeNext me N r L es).1.length ≤ 80000) := ⟨by have := hag.ll; omega, by have := hag1.ll; omega⟩
  have HT1 : Hid (∀ (W : World) (ao : Option Addr) (cap : Nat), Vw hb mb me N L W → FromV W ao es → (∀ b off, ao = some ⟨b, off, none⟩ → b ≠ mb) → Calls Try.prog 19 #[.pointer (some ⟨hb, 0, none⟩), .int .i64 r, .slice ao KK cap] W fun q w' => q = .returned (.tuple #[.int .i64 ((rtakeNext me N r A es).2 : Nat), .int .i64 (rtakeCode me N r A es)]) ∧ Vw hb mb me N (takeNext me N r L es).1 w' ∧ Chg (fun k => k = mb) W w') := fun W ao cap h1 h2 h3 => by
    have := take_any r ao KK cap es W h1 (by have := hag.ll; omega) hl (by unfold maxLen; omega) h2 hs h3
    rwa [t1, t2] at this
  have HR1 : Hid (∀ (W : World) (u : Value), RVw L0 rb me N u A W → FromV W la es → (0 < KK → ∀ b off, la = some ⟨b, off, none⟩ → b ≠ rb ∧ u.ownBlock ≠ some b) → Calls Try.prog 69 #[.pointer (some ⟨rb, 0, none⟩), .int .i64 r, .slice la KK lcap] W fun q w' => q = .returned (.tuple #[.int .i64 ((rtakeNext me N r A es).2 : Nat), .int .i64 (rtakeCode me N r A es)]) ∧ RPost L0 rb me N u (rtakeNext me N r A es).1 W w') := fun W u h1 h2 h3 => rtake_any r la KK lcap es W h1 (by omega) hl (by unfold maxLen; omega) h2 hs h3
  have hrl : (List.replicate KK badE).length = KK := List.length_replicate
  have hrs : ∀ e ∈ List.replicate KK badE, e.sane := fun e he => by rw [List.eq_of_mem_replicate he]; exact bad_sane
  have HT2 : Hid (∀ (W : World) (ao : Option Addr) (cap : Nat), Vw hb mb me N (takeNext me N r L es).1 W → FromV W ao (List.replicate KK badE) → (∀ b off, ao = some ⟨b, off, none⟩ → b ≠ mb) → Calls Try.prog 19 #[.pointer (some ⟨hb, 0, none⟩), .int .i64 r, .slice ao KK cap] W fun q w' => q = .returned (.tuple #[.int .i64 ((rtakeNext me N r (rtakeNext me N r A es).1 (List.replicate KK badE)).2 : Nat), .int .i64 (rtakeCode me N r (rtakeNext me N r A es).1 (List.replicate KK badE))]) ∧ Vw hb mb me N (takeNext me N r (takeNext me N r L es).1 (List.replicate KK badE)).1 w' ∧ Chg (fun k => k = mb) W w') := fun W ao cap h1 h2 h3 => by
    have := take_any r ao KK cap (List.replicate KK badE) W h1 (by have := hag1.ll; omega) hrl (by unfold maxLen; omega) h2 hrs h3
    rwa [s1, s2] at this
  have HR2 : Hid (∀ (W : World) (u : Value) (ya : Option Addr) (yc : Nat), RVw L0 rb me N u (rtakeNext me N r A es).1 W → FromV W ya (List.replicate KK badE) → (0 < KK → ∀ b off, ya = some ⟨b, off, none⟩ → b ≠ rb ∧ u.ownBlock ≠ some b) → Calls Try.prog 69 #[.pointer (some ⟨rb, 0, none⟩), .int .i64 r, .slice ya KK yc] W fun q w' => q = .returned (.tuple #[.int .i64 ((rtakeNext me N r (rtakeNext me N r A es).1 (List.replicate KK badE)).2 : Nat), .int .i64 (rtakeCode me N r (rtakeNext me N r A es).1 (List.replicate KK badE))]) ∧ RPost L0 rb me N u (rtakeNext me N r (rtakeNext me N r A es).1 (List.replicate KK badE)).1 W w') := fun W u ya yc h1 h2 h3 => rtake_any r ya KK yc (List.replicate KK badE) W h1 (by omega) hrl (by unfold maxLen; omega) h2 hrs h3
  have HA2 : Hid ((rtakeNext me N r (rtakeNext me N r A es).1 (List.replicate KK badE)).1.length ≤ 128 * (M + 1)) := show (rtakeNext me N r (rtakeNext me N r A es).1 (List.replicate KK badE)).1.length ≤ 128 * (M + 1) from by omega
  generalize (rtakeNext me N r (rtakeNext me N r A es).1 (List.replicate KK badE)).1 = A2 at *
  generalize (rtakeNext me N r (rtakeNext me N r A es).1 (List.replicate KK badE)).2 = n2 at *
  generalize rtakeCode me N r (rtakeNext me N r A es).1 (List.replicate KK badE) = c2 at *
  generalize (takeNext me N r (takeNext me N r L es).1 (List.replicate KK badE)).1 = L2 at *
  generalize (rtakeNext me N r A es).1 = A1 at *
  generalize (rtakeNext me N r A es).2 = n1 at *
  generalize rtakeCode me N r A es = c1 at *
  generalize (takeNext me N r L es).1 = L1 at *
  have HLD : Hid (∀ W, FromV W la es → Calls Try.prog 68 #[.slice la KK lcap] W fun e w' => ∃ u, e = .returned u ∧ w'.ownsRow W.heap.size 46 7 u (KK + 2) (flatV (es ++ [oneE, twoE])) ∧ Below W.heap.size W w') := fun W h => lend_any la KK lcap es W hl hK h
  have hKm : KK + 2 ≤ 9000000000000 := by omega
  have HKB : Hid ((KK + 2) * 64 ≤ 140737488355328) := hK
  clear hP hV hR hag hA hl hK hf hs hfb t1 t2 hag1 hA1 s1 s2 hag2 hA2 hrl hrs
  go_enter Try.func42, Try.ntmps42
  go_wp2_with fail
  refine Calls.mono (HLD.out w HF.out) ?_
  rintro e9 w1 ⟨xv, rfl, hx1, hb1⟩
  obtain ⟨xa, xc, hxv, hxc, hxm, hfx, hxg⟩ := own_fromV hx1
  obtain ⟨g, hxa, hgb, hgl⟩ := hxg (by simp)
  subst hxa
  subst hxv
  have HX1 : Hid (World.ownsRow w1 w.heap.size 46 7 (.slice (some ⟨g, 0, none⟩) (KK + 2) xc) (KK + 2) (flatV (es ++ [oneE, twoE]))) := hx1
  have HS1 : Hid (PSt L0 pb hb mb rb me N #[.pointer (some ⟨hb, 0, none⟩), .pointer (some ⟨rb, 0, none⟩), dg, kn, bk] v v L A w w1) := HS0.out.more hb1
  have HF1 : Hid (FromV w1 (some ⟨g, 0, none⟩) es) := fromV_pre hfx
  have p0 : w1.cell? ⟨pb, 0, none⟩ = some (.pointer (some ⟨hb, 0, none⟩)) := HS1.out.box.cell 0
  clear hx1 hb1 hfx hgb hgl HS0 hxm
  go_wp2_with fail
  rename_i K hK
  try rw [show ∀ a : Act, a.put none undef = a from fun _ => rfl]
  refine wp_region_mix (fun wq => wq.cell? ⟨pb, 0, none⟩ = some (.pointer (some ⟨hb, 0, none⟩))) (fun i => i == 9 || i == 99) 99 (by kernel_rfl) rfl (by kernel_rfl) (by kernel_rfl) (by kernel_rfl) ?_
  refine withFrP (N := 105) rfl ?_
  intro f0 F0 hff
  have ee0 : f0 0 = Value.pointer (some ⟨pb, 0, none⟩) := hff 0
  have ee1 : f0 1 = Value.int .i64 r := hff 1
  have ee2 : f0 2 = Value.slice la KK lcap := hff 2
  have ee7 : f0 7 = Value.slice (some ⟨g, 0, none⟩) (KK + 2) xc := hff 7
  clear hff
  have HCC : (fun wq => wq.cell? ⟨pb, 0, none⟩ = some (.pointer (some ⟨hb, 0, none⟩))) (({ w1 with drawn := w1.drawn + 1 } : World)) := p0
  refine lyp F0 rfl HCC rfl (by omega) (wanted_none rfl) (v := Value.pointer (some ⟨pb, 0, none⟩)) (fun wr hwr => by simp only [execOp, (F0.eval 0 (by omega)).trans (show _ = Value.pointer (some ⟨pb, 0, none⟩) from by simp [upd, ee0, ee1, ee2, ee7])]; first | rfl | simp [go_sem]) fun F1 => ?_
  refine lyp F1 rfl HCC rfl (by omega) (wanted_none rfl) (v := Value.pointer (some ⟨pb, 0, none⟩)) (fun wr hwr => by simp only [execOp, (F1.eval 18 (by omega)).trans (show _ = Value.pointer (some ⟨pb, 0, none⟩) from by simp [upd, ee0, ee1, ee2, ee7])]; simp [go_sem]) fun F2 => ?_
  refine lyp F2 rfl HCC rfl (by omega) (wanted_none rfl) (v := Value.pointer (some ⟨pb, 0, none⟩)) (fun wr hwr => by simp only [execOp, (F2.eval 19 (by omega)).trans (show _ = Value.pointer (some ⟨pb, 0, none⟩) from by simp [upd, ee0, ee1, ee2, ee7])]; simp [go_sem]) fun F3 => ?_
  refine lyp F3 rfl HCC rfl (by omega) (wanted_none rfl) (v := Value.pointer (some ⟨hb, 0, none⟩)) (fun wr hwr => by simp only [execOp, (F3.eval 20 (by omega)).trans (show _ = Value.pointer (some ⟨pb, 0, none⟩) from by simp [upd, ee0, ee1, ee2, ee7])]; simp [go_sem, show wr.cell? ⟨pb, 0, none⟩ = some (.pointer (some ⟨hb, 0, none⟩)) from hwr]) fun F4 => ?_
  refine lyp F4 rfl HCC rfl (by omega) (wanted_none rfl) (v := Value.int .i64 r) (fun wr hwr => by simp only [execOp, (F4.eval 1 (by omega)).trans (show _ = Value.int .i64 r from by simp [upd, ee0, ee1, ee2, ee7])]; first | rfl | simp [go_sem]) fun F5 => ?_
  refine lyp F5 rfl HCC rfl (by omega) (wanted_none rfl) (v := Value.slice (some ⟨g, 0, none⟩) (KK + 2) xc) (fun wr hwr => by simp only [execOp, (F5.eval 7 (by omega)).trans (show _ = Value.slice (some ⟨g, 0, none⟩) (KK + 2) xc from by simp [upd, ee0, ee1, ee2, ee7])]; first | rfl | simp [go_sem]) fun F6 => ?_
  refine lyp F6 rfl HCC rfl (by omega) (wanted_none rfl) (v := Value.slice la KK lcap) (fun wr hwr => by simp only [execOp, (F6.eval 2 (by omega)).trans (show _ = Value.slice la KK lcap from by simp [upd, ee0, ee1, ee2, ee7])]; first | rfl | simp [go_sem]) fun F7 => ?_
  refine lyp F7 rfl HCC rfl (by omega) (wanted_none rfl) (v := Value.int .i64 (KK : Nat)) (fun wr hwr => by simp only [execOp, resolve, invoke, builtin, List.map_toArray, List.map_cons, List.map_nil, (F7.eval 24 (by omega)).trans (show _ = Value.slice la KK lcap from by simp [upd, ee0, ee1, ee2, ee7])]; simp [go_sem, Builtin.len_, Builtin.lenOf]) fun F8 => ?_
  refine lyp F8 rfl HCC rfl (by omega) (wanted_none rfl) (v := Value.slice (some ⟨g, 0, none⟩) KK xc) (fun wr hwr => by simp only [execOp, Option.map, (F8.eval 23 (by omega)).trans (show _ = Value.slice (some ⟨g, 0, none⟩) (KK + 2) xc from by simp [upd, ee0, ee1, ee2, ee7]), (F8.eval 25 (by omega)).trans (show _ = Value.int .i64 (KK : Nat) from by simp [upd, ee0, ee1, ee2, ee7])]; simp only [Sem.run_bind, Sem.run_pure, Result.andThen_ok, slice_head 31 46 Try.underlying31 info46 (some ⟨g, 0, none⟩) (KK + 2) xc KK (by omega) wr]; try rfl) fun F9 => ?_
  refine lcp F9 rfl HCC rfl (by omega) (wanted_none rfl) (g := 19) (args := #[Value.pointer (some ⟨hb, 0, none⟩), Value.int .i64 r, Value.slice (some ⟨g, 0, none⟩) KK xc]) (by simp only [execOp, resolve, invoke, List.map_toArray, List.map_cons, List.map_nil, (F9.eval 21 (by omega)).trans (show _ = Value.pointer (some ⟨hb, 0, none⟩) from by simp [upd, ee0, ee1, ee2, ee7]), (F9.eval 22 (by omega)).trans (show _ = Value.int .i64 r from by simp [upd, ee0, ee1, ee2, ee7]), (F9.eval 26 (by omega)).trans (show _ = Value.slice (some ⟨g, 0, none⟩) KK xc from by simp [upd, ee0, ee1, ee2, ee7])]; simp [go_sem, Act.eval]) (HT1.out (({ w1 with drawn := w1.drawn + 1 } : World)) (some ⟨g, 0, none⟩) xc (HS1.out.more (Below.drew (Below.refl w1.heap.size w1))).vw (HF1.out.keep (fun _ _ _ => rfl)) (fun b off e => by cases e; exact (HS1.out.row HX1.out g rfl).2.2.1)) ?_
  rintro e9 w2 ⟨rfl, hV2, hc2⟩
  refine ⟨_, rfl, fun F10 => ?_⟩
  have HC2 : (fun wq => wq.cell? ⟨pb, 0, none⟩ = some (.pointer (some ⟨hb, 0, none⟩))) w2 := ((show Chg (fun k => k = mb) (({ w1 with drawn := w1.drawn + 1 } : World)) w2 from hc2).blk (show Blk (({ w1 with drawn := w1.drawn + 1 } : World)) pb _ 68 from HS1.out.box) (HS1.out.vw.map.ne_b HS1.out.box)).cell 0
  refine lyp F10 rfl HC2 rfl (by omega) (wanted_none rfl) (v := Value.tuple #[.int .i64 ((n1 : Nat) : Int), .int .i64 c1]) (fun wr hwr => by simp only [execOp, (F10.eval 27 (by omega)).trans (show _ = Value.tuple #[.int .i64 ((n1 : Nat) : Int), .int .i64 c1] from by simp [upd, ee0, ee1, ee2, ee7])]; first | rfl | simp [go_sem]) fun F11 => ?_
  refine lyp F11 rfl HC2 rfl (by omega) (wanted_none rfl) (v := Value.int .i64 ((n1 : Nat) : Int)) (fun wr hwr => by simp only [execOp, (F11.eval 17 (by omega)).trans (show _ = Value.tuple #[.int .i64 ((n1 : Nat) : Int), .int .i64 c1] from by simp [upd, ee0, ee1, ee2, ee7])]; simp [go_sem]) fun F12 => ?_
  refine lyp F12 rfl HC2 rfl (by omega) (wanted_none rfl) (v := Value.int .i64 c1) (fun wr hwr => by simp only [execOp, (F12.eval 17 (by omega)).trans (show _ = Value.tuple #[.int .i64 ((n1 : Nat) : Int), .int .i64 c1] from by simp [upd, ee0, ee1, ee2, ee7])]; simp [go_sem]) fun F13 => ?_
  refine lyp F13 rfl HC2 rfl (by omega) (wanted_none rfl) (v := Value.int .i64 ((n1 : Nat) : Int)) (fun wr hwr => by simp only [execOp, (F13.eval 28 (by omega)).trans (show _ = Value.int .i64 ((n1 : Nat) : Int) from by simp [upd, ee0, ee1, ee2, ee7])]; first | rfl | simp [go_sem]) fun F14 => ?_
  refine lyp F14 rfl HC2 rfl (by omega) (wanted_none rfl) (v := Value.int .i64 c1) (fun wr hwr => by simp only [execOp, (F14.eval 29 (by omega)).trans (show _ = Value.int .i64 c1 from by simp [upd, ee0, ee1, ee2, ee7])]; first | rfl | simp [go_sem]) fun F15 => ?_
  refine ⟨fun _ => HC2, ?_⟩
  refine hK _ _ ?_
  clear F0 F1 F2 F3 F4 F5 F6 F7 F8 F9 F10 F11 F12 F13 F14 F15 ee0 ee1 ee2 ee7 HCC HC2
  simp only [Act.put, List.setIfInBounds_toArray, List.set_cons_succ, List.set_cons_zero]
  clear p0
  have HS2 : Hid (PSt L0 pb hb mb rb me N #[.pointer (some ⟨hb, 0, none⟩), .pointer (some ⟨rb, 0, none⟩), dg, kn, bk] v v L1 A w w2) := (HS1.out.more (show Below w1.heap.size w1 (({ w1 with drawn := w1.drawn + 1 } : World)) from Below.drew (Below.refl _ _))).take hV2 hc2
  have HX2 : Hid (World.ownsRow w2 w.heap.size 46 7 (.slice (some ⟨g, 0, none⟩) (KK + 2) xc) (KK + 2) (flatV (es ++ [oneE, twoE]))) := (HS1.out.more (show Below w1.heap.size w1 (({ w1 with drawn := w1.drawn + 1 } : World)) from Below.drew (Below.refl _ _))).rowTake (ownsRow_same HX1.out (fun _ _ => rfl)) hc2
  have p1 : w2.cell? ⟨pb, 1, none⟩ = some (.pointer (some ⟨rb, 0, none⟩)) := HS2.out.box.cell 1
  clear hV2 hc2 HS1 HX1 HF1
  go_wp2_with fail
  refine Calls.mono (HR1.out w2 v HS2.out.rv (HS2.out.from HF.out HFE.out) (HS2.out.fromNe HFB.out)) ?_
  rintro e9 w3 ⟨rfl, hP3⟩
  obtain ⟨v3, hs3⟩ := HS2.out.rtake hP3
  have HS3 : Hid (PSt L0 pb hb mb rb me N #[.pointer (some ⟨hb, 0, none⟩), .pointer (some ⟨rb, 0, none⟩), dg, kn, bk] v v3 L1 A1 w w3) := hs3
  have HX3 : Hid (World.ownsRow w3 w.heap.size 46 7 (.slice (some ⟨g, 0, none⟩) (KK + 2) xc) (KK + 2) (flatV (es ++ [oneE, twoE]))) := HS2.out.rowRtake HX2.out hP3
  clear hP3 hs3 HS2 HX2 p1
  go_wp2_with fail
  refine Calls.mono (HLD.out w3 (HS3.out.from HF.out HFE.out)) ?_
  rintro e9 w4 ⟨yv, rfl, hy4, hb4⟩
  obtain ⟨ya, yc, hyv, hyc, hym, hfy, hyg⟩ := own_fromV hy4
  subst hyv
  have HS4 : Hid (PSt L0 pb hb mb rb me N #[.pointer (some ⟨hb, 0, none⟩), .pointer (some ⟨rb, 0, none⟩), dg, kn, bk] v v3 L1 A1 w w4) := HS3.out.more hb4
  have HX4 : Hid (World.ownsRow w4 w.heap.size 46 7 (.slice (some ⟨g, 0, none⟩) (KK + 2) xc) (KK + 2) (flatV (es ++ [oneE, twoE]))) := ownsRow_same HX3.out (fun g hg => hb4.block g (ownsRow_lt HX3.out hg).2)
  have HFY : Hid (FromV w4 ya (es ++ [oneE, twoE])) := hfy
  obtain ⟨_, _, hxv4, _, hxm4, hfx4, _⟩ := own_fromV HX4.out
  cases hxv4
  have HAL : Hid _ := all_yes (some ⟨g, 0, none⟩) ya (KK + 2) xc yc (es ++ [oneE, twoE]) w4 (by rw [List.length_append, HL.out]; rfl) (by unfold maxLen; omega) hfx4 hfy
  clear hy4 hb4 hfy hyg hym hyc HS3 HX3 hfx4 hxm4 HFY
  go_wp2_with fail
  refine Calls.mono HAL.out ?_
  rintro e9 w5 ⟨rfl, hb5⟩
  have HS5 : Hid (PSt L0 pb hb mb rb me N #[.pointer (some ⟨hb, 0, none⟩), .pointer (some ⟨rb, 0, none⟩), dg, kn, bk] v v3 L1 A1 w w5) := HS4.out.more hb5
  have HX5 : Hid (World.ownsRow w5 w.heap.size 46 7 (.slice (some ⟨g, 0, none⟩) (KK + 2) xc) (KK + 2) (flatV (es ++ [oneE, twoE]))) := ownsRow_same HX4.out (fun g hg => hb5.block g (ownsRow_lt HX4.out hg).2)
  clear hb5 HS4 HX4 HAL
  go_wp2_with fail
  go_loopw [13] (fun i wr => ∃ (q : Nat), q ≤ KK + 2 ∧ i = .int .i64 q ∧ PSt L0 pb hb mb rb me N #[.pointer (some ⟨hb, 0, none⟩), .pointer (some ⟨rb, 0, none⟩), dg, kn, bk] v v3 L1 A1 w wr ∧ wr.ownsRow w.heap.size 46 7 (.slice (some ⟨g, 0, none⟩) (KK + 2) xc) (KK + 2) (flatV (List.replicate q badE ++ (es ++ [oneE, twoE]).drop q))) (fun i _ => KK + 2 - (intOf i).toNat)
  case atStart => exact ⟨0, Nat.zero_le _, rfl, HS5.out, by simpa using HX5.out⟩
  case round =>
    obtain ⟨q, hq, rfl, hst, hx⟩ := hrel
    clear HS5 HX5
    have HST : Hid (PSt L0 pb hb mb rb me N #[.pointer (some ⟨hb, 0, none⟩), .pointer (some ⟨rb, 0, none⟩), dg, kn, bk] v v3 L1 A1 w wr) := hst
    have HXR : Hid (World.ownsRow wr w.heap.size 46 7 (.slice (some ⟨g, 0, none⟩) (KK + 2) xc) (KK + 2) (flatV (List.replicate q badE ++ (es ++ [oneE, twoE]).drop q))) := hx
    by_cases hlt : q < KK + 2
    · have hdl : (List.replicate q badE ++ (es ++ [oneE, twoE]).drop q).length = KK + 2 := by simp; rw [HL.out]; omega
      have hcell : ∀ t, t < 7 → ∃ u, wr.cell? ⟨g, q * 7 + t, none⟩ = some u := fun t ht => by
        have e0 := World.ownsRow.cellAt hx (q * 7 + t) (by omega)
        exact ⟨_, e0.trans (List.getElem?_eq_getElem (by rw [flatV_length, hdl]; omega))⟩
      obtain ⟨u0, c0⟩ := hcell 0 (by decide)
      rw [Nat.add_zero] at c0
      obtain ⟨u1, c1'⟩ := hcell 1 (by decide)
      obtain ⟨u2, c2'⟩ := hcell 2 (by decide)
      obtain ⟨u3, c3⟩ := hcell 3 (by decide)
      obtain ⟨u4, c4⟩ := hcell 4 (by decide)
      obtain ⟨u5, c5⟩ := hcell 5 (by decide)
      obtain ⟨u6, c6⟩ := hcell 6 (by decide)
      have f0 := World.ownsRow.frozenAt hx (q * 7)
      have f1 := World.ownsRow.frozenAt hx (q * 7 + 1)
      have f2 := World.ownsRow.frozenAt hx (q * 7 + 2)
      have f3 := World.ownsRow.frozenAt hx (q * 7 + 3)
      have f4 := World.ownsRow.frozenAt hx (q * 7 + 4)
      have f5 := World.ownsRow.frozenAt hx (q * 7 + 5)
      have f6 := World.ownsRow.frozenAt hx (q * 7 + 6)
      obtain ⟨o0, g0⟩ := World.ownsRow.stored hx (q * 7) (.string ⟨badE.n.toArray⟩)
      obtain ⟨o1, g1⟩ := World.ownsRow.stored o0 (q * 7 + 1) (.int .i64 badE.c)
      obtain ⟨o2, g2⟩ := World.ownsRow.stored o1 (q * 7 + 2) (.int .i64 badE.rc)
      obtain ⟨o3, g3⟩ := World.ownsRow.stored o2 (q * 7 + 3) (.int .i64 badE.v)
      obtain ⟨o4, g4⟩ := World.ownsRow.stored o3 (q * 7 + 4) (.int .i64 badE.d)
      obtain ⟨o5, g5⟩ := World.ownsRow.stored o4 (q * 7 + 5) (.int .i64 badE.u)
      obtain ⟨o6, g6⟩ := World.ownsRow.stored o5 (q * 7 + 6) (.int .i64 badE.h)
      have hset : (List.replicate q badE ++ (es ++ [oneE, twoE]).drop q).set q badE = List.replicate (q + 1) badE ++ (es ++ [oneE, twoE]).drop (q + 1) := by
        rw [List.set_append_right _ _ (by simp), List.length_replicate, Nat.sub_self, List.drop_eq_getElem_cons (by simp; rw [HL.out]; omega), List.set_cons_zero, List.replicate_succ', List.append_assoc]
        rfl
      rw [flatV_set _ q badE (by rw [hdl]; exact hlt), hset] at o6
      have s1 : ∀ (W : World) (j : Nat) (u : Value), Chg (fun k => k = g) W (W.setCell ⟨g, j, none⟩ u) := fun W j u => setCell_chg W g j u
      have hc7 := ((((((s1 wr (q * 7) (.string ⟨badE.n.toArray⟩)).trans (s1 _ (q * 7 + 1) (.int .i64 badE.c)) (fun _ _ e => e)).trans (s1 _ (q * 7 + 2) (.int .i64 badE.rc)) (fun _ _ e => e)).trans (s1 _ (q * 7 + 3) (.int .i64 badE.v)) (fun _ _ e => e)).trans (s1 _ (q * 7 + 4) (.int .i64 badE.d)) (fun _ _ e => e)).trans (s1 _ (q * 7 + 5) (.int .i64 badE.u)) (fun _ _ e => e)).trans (s1 _ (q * 7 + 6) (.int .i64 badE.h)) (fun _ _ e => e)
      have HO6 : Hid _ := o6
      have HS6 : Hid _ := hst.rowSet hx (Nat.le_refl _) (hc7.mono (fun j _ e => by rw [e]; rfl))
      clear hcell hdl o0 o1 o2 o3 o4 o5 o6 g0 g1 g2 g3 g4 g5 g6 s1 hc7 hset hst hx
      go_wp2_with fail
      go_roundw
      case rel => exact ⟨q + 1, by omega, by go_num, HS6.out, HO6.out⟩
      case measure => simp [intOf]; omega
    · obtain rfl : q = KK + 2 := by omega
      have hdr : List.replicate (KK + 2) badE ++ (es ++ [oneE, twoE]).drop (KK + 2) = List.replicate (KK + 2) badE := by rw [List.drop_of_length_le (by simp; rw [HL.out]; omega), List.append_nil]
      rw [hdr] at hx
      have hx7 : World.ownsRow wr w.heap.size 46 7 (.slice (some ⟨g, 0, none⟩) (KK + 2) xc) (KK + 2) (flatV (List.replicate KK badE ++ List.replicate 2 badE)) := by rw [List.replicate_append_replicate]; exact hx
      have HX7 : Hid (World.ownsRow wr w.heap.size 46 7 (.slice (some ⟨g, 0, none⟩) (KK + 2) xc) (KK + 2) (flatV (List.replicate KK badE ++ List.replicate 2 badE))) := hx7
      obtain ⟨_, _, hxv7, _, _, hfx7, _⟩ := own_fromV hx7
      cases hxv7
      have hfx8 : FromV wr (some ⟨g, 0, none⟩) (List.replicate KK badE) := fromV_pre hfx7
      have hnil : World.ownsRow wr w.heap.size 46 7 (.slice none 0 0) 0 [] := World.ownsRow_nil _ _ _ _
      have hcs : ∀ j u, (flatV (List.replicate KK badE))[j]? = some u → wr.cell? (Addr.add ⟨g, 0, none⟩ j) = some u := fun j u hu => by
        rw [addr_add, Nat.zero_add]
        have e0 := World.ownsRow.cellAt hx7 j (by have := (List.getElem?_eq_some_iff.1 hu).1; rw [flatV_length, List.length_replicate] at this; omega)
        rw [e0, flatV_append, List.getElem?_append_left (List.getElem?_eq_some_iff.1 hu).1]
        exact hu
      obtain ⟨v8, w8, hrun, ho8, hg8⟩ := app_rows 31 46 (viewV zed) 7 64 Try.underlying31 sizeV rfl (by decide) (by decide) hnil (ao := some ⟨g, 0, none⟩) (m := KK) (cap := xc) (ys := flatV (List.replicate KK badE)) (by rw [flatV_length, List.length_replicate]) (fun h => by cases h) (fun ad had j u hu => by cases had; exact hcs j u hu) (rep_one KK) (by have := HKB.out; omega) hst.chg.size
      rw [Nat.zero_add, List.nil_append] at ho8
      have hb8 : Below wr.heap.size wr w8 := hg8.below (fun j hj => by cases hj) (Nat.le_refl _)
      obtain ⟨ya8, yc8, hyv8, _, _, hfy8, hyg8⟩ := own_fromV ho8
      subst hyv8
      have HS8 : Hid (PSt L0 pb hb mb rb me N #[.pointer (some ⟨hb, 0, none⟩), .pointer (some ⟨rb, 0, none⟩), dg, kn, bk] v v3 L1 A1 w w8) := hst.more hb8
      have HX8 : Hid (World.ownsRow w8 w.heap.size 46 7 (.slice (some ⟨g, 0, none⟩) (KK + 2) xc) (KK + 2) (flatV (List.replicate KK badE ++ List.replicate 2 badE))) := ownsRow_same hx7 (fun g hg => hb8.block g (ownsRow_lt hx7 hg).2)
      have HF8 : Hid (FromV w8 (some ⟨g, 0, none⟩) (List.replicate KK badE)) := hfx8.all hb8
      have HY8 : Hid (World.ownsRow w8 w.heap.size 46 7 (.slice ya8 KK yc8) KK (flatV (List.replicate KK badE))) := ho8
      have HRU : Hid _ := hrun
      have hsl := slice_head 31 46 Try.underlying31 info46 (some ⟨g, 0, none⟩) (KK + 2) xc KK (by omega)
      have p0 : w8.cell? ⟨pb, 0, none⟩ = some (.pointer (some ⟨hb, 0, none⟩)) := HS8.out.box.cell 0
      clear hx hdr hx7 hfx7 hfx8 hnil hcs hrun ho8 hg8 hb8 hfy8 hyg8 hst HX7 HST HXR
      go_wp2_with (at_builtin; refine wpList_runs rfl _ _ 31 rfl rfl rfl HRU.out ?_)
      rename_i K hK
      try rw [show ∀ a : Act, a.put none undef = a from fun _ => rfl]
      refine wp_region_mix (fun wq => wq.cell? ⟨pb, 0, none⟩ = some (.pointer (some ⟨hb, 0, none⟩))) (fun i => i == 9 || i == 99) 99 (by kernel_rfl) rfl (by kernel_rfl) (by kernel_rfl) (by kernel_rfl) ?_
      refine withFrP (N := 105) rfl ?_
      intro f0 F0 hff
      have ee0 : f0 0 = Value.pointer (some ⟨pb, 0, none⟩) := hff 0
      have ee1 : f0 1 = Value.int .i64 r := hff 1
      have ee2 : f0 2 = Value.slice la KK lcap := hff 2
      have ee7 : f0 7 = Value.slice (some ⟨g, 0, none⟩) (KK + 2) xc := hff 7
      clear hff
      have HCC : (fun wq => wq.cell? ⟨pb, 0, none⟩ = some (.pointer (some ⟨hb, 0, none⟩))) (({ w8 with drawn := w8.drawn + 1 } : World)) := p0
      refine lyp F0 rfl HCC rfl (by omega) (wanted_none rfl) (v := Value.pointer (some ⟨pb, 0, none⟩)) (fun wr hwr => by simp only [execOp, (F0.eval 0 (by omega)).trans (show _ = Value.pointer (some ⟨pb, 0, none⟩) from by simp [upd, ee0, ee1, ee2, ee7])]; first | rfl | simp [go_sem]) fun F1 => ?_
      refine lyp F1 rfl HCC rfl (by omega) (wanted_none rfl) (v := Value.pointer (some ⟨pb, 0, none⟩)) (fun wr hwr => by simp only [execOp, (F1.eval 72 (by omega)).trans (show _ = Value.pointer (some ⟨pb, 0, none⟩) from by simp [upd, ee0, ee1, ee2, ee7])]; simp [go_sem]) fun F2 => ?_
      refine lyp F2 rfl HCC rfl (by omega) (wanted_none rfl) (v := Value.pointer (some ⟨pb, 0, none⟩)) (fun wr hwr => by simp only [execOp, (F2.eval 73 (by omega)).trans (show _ = Value.pointer (some ⟨pb, 0, none⟩) from by simp [upd, ee0, ee1, ee2, ee7])]; simp [go_sem]) fun F3 => ?_
      refine lyp F3 rfl HCC rfl (by omega) (wanted_none rfl) (v := Value.pointer (some ⟨hb, 0, none⟩)) (fun wr hwr => by simp only [execOp, (F3.eval 74 (by omega)).trans (show _ = Value.pointer (some ⟨pb, 0, none⟩) from by simp [upd, ee0, ee1, ee2, ee7])]; simp [go_sem, show wr.cell? ⟨pb, 0, none⟩ = some (.pointer (some ⟨hb, 0, none⟩)) from hwr]) fun F4 => ?_
      refine lyp F4 rfl HCC rfl (by omega) (wanted_none rfl) (v := Value.int .i64 r) (fun wr hwr => by simp only [execOp, (F4.eval 1 (by omega)).trans (show _ = Value.int .i64 r from by simp [upd, ee0, ee1, ee2, ee7])]; first | rfl | simp [go_sem]) fun F5 => ?_
      refine lyp F5 rfl HCC rfl (by omega) (wanted_none rfl) (v := Value.slice (some ⟨g, 0, none⟩) (KK + 2) xc) (fun wr hwr => by simp only [execOp, (F5.eval 7 (by omega)).trans (show _ = Value.slice (some ⟨g, 0, none⟩) (KK + 2) xc from by simp [upd, ee0, ee1, ee2, ee7])]; first | rfl | simp [go_sem]) fun F6 => ?_
      refine lyp F6 rfl HCC rfl (by omega) (wanted_none rfl) (v := Value.slice la KK lcap) (fun wr hwr => by simp only [execOp, (F6.eval 2 (by omega)).trans (show _ = Value.slice la KK lcap from by simp [upd, ee0, ee1, ee2, ee7])]; first | rfl | simp [go_sem]) fun F7 => ?_
      refine lyp F7 rfl HCC rfl (by omega) (wanted_none rfl) (v := Value.int .i64 (KK : Nat)) (fun wr hwr => by simp only [execOp, resolve, invoke, builtin, List.map_toArray, List.map_cons, List.map_nil, (F7.eval 78 (by omega)).trans (show _ = Value.slice la KK lcap from by simp [upd, ee0, ee1, ee2, ee7])]; simp [go_sem, Builtin.len_, Builtin.lenOf]) fun F8 => ?_
      refine lyp F8 rfl HCC rfl (by omega) (wanted_none rfl) (v := Value.slice (some ⟨g, 0, none⟩) KK xc) (fun wr hwr => by simp only [execOp, Option.map, (F8.eval 77 (by omega)).trans (show _ = Value.slice (some ⟨g, 0, none⟩) (KK + 2) xc from by simp [upd, ee0, ee1, ee2, ee7]), (F8.eval 79 (by omega)).trans (show _ = Value.int .i64 (KK : Nat) from by simp [upd, ee0, ee1, ee2, ee7])]; simp only [Sem.run_bind, Sem.run_pure, Result.andThen_ok, slice_head 31 46 Try.underlying31 info46 (some ⟨g, 0, none⟩) (KK + 2) xc KK (by omega) wr]; try rfl) fun F9 => ?_
      refine lcp F9 rfl HCC rfl (by omega) (wanted_none rfl) (g := 19) (args := #[Value.pointer (some ⟨hb, 0, none⟩), Value.int .i64 r, Value.slice (some ⟨g, 0, none⟩) KK xc]) (by simp only [execOp, resolve, invoke, List.map_toArray, List.map_cons, List.map_nil, (F9.eval 75 (by omega)).trans (show _ = Value.pointer (some ⟨hb, 0, none⟩) from by simp [upd, ee0, ee1, ee2, ee7]), (F9.eval 76 (by omega)).trans (show _ = Value.int .i64 r from by simp [upd, ee0, ee1, ee2, ee7]), (F9.eval 80 (by omega)).trans (show _ = Value.slice (some ⟨g, 0, none⟩) KK xc from by simp [upd, ee0, ee1, ee2, ee7])]; simp [go_sem, Act.eval]) (HT2.out (({ w8 with drawn := w8.drawn + 1 } : World)) (some ⟨g, 0, none⟩) xc (HS8.out.more (Below.drew (Below.refl w8.heap.size w8))).vw (HF8.out.keep (fun _ _ _ => rfl)) (fun b off e => by cases e; exact (HS8.out.row HX8.out g rfl).2.2.1)) ?_
      rintro e9 w9 ⟨rfl, hV9, hc9⟩
      refine ⟨_, rfl, fun F10 => ?_⟩
      have HC2 : (fun wq => wq.cell? ⟨pb, 0, none⟩ = some (.pointer (some ⟨hb, 0, none⟩))) w9 := ((show Chg (fun k => k = mb) (({ w8 with drawn := w8.drawn + 1 } : World)) w9 from hc9).blk (show Blk (({ w8 with drawn := w8.drawn + 1 } : World)) pb _ 68 from HS8.out.box) (HS8.out.vw.map.ne_b HS8.out.box)).cell 0
      refine lyp F10 rfl HC2 rfl (by omega) (wanted_none rfl) (v := Value.tuple #[.int .i64 ((n2 : Nat) : Int), .int .i64 c2]) (fun wr hwr => by simp only [execOp, (F10.eval 81 (by omega)).trans (show _ = Value.tuple #[.int .i64 ((n2 : Nat) : Int), .int .i64 c2] from by simp [upd, ee0, ee1, ee2, ee7])]; first | rfl | simp [go_sem]) fun F11 => ?_
      refine lyp F11 rfl HC2 rfl (by omega) (wanted_none rfl) (v := Value.int .i64 ((n2 : Nat) : Int)) (fun wr hwr => by simp only [execOp, (F11.eval 71 (by omega)).trans (show _ = Value.tuple #[.int .i64 ((n2 : Nat) : Int), .int .i64 c2] from by simp [upd, ee0, ee1, ee2, ee7])]; simp [go_sem]) fun F12 => ?_
      refine lyp F12 rfl HC2 rfl (by omega) (wanted_none rfl) (v := Value.int .i64 c2) (fun wr hwr => by simp only [execOp, (F12.eval 71 (by omega)).trans (show _ = Value.tuple #[.int .i64 ((n2 : Nat) : Int), .int .i64 c2] from by simp [upd, ee0, ee1, ee2, ee7])]; simp [go_sem]) fun F13 => ?_
      refine lyp F13 rfl HC2 rfl (by omega) (wanted_none rfl) (v := Value.int .i64 ((n2 : Nat) : Int)) (fun wr hwr => by simp only [execOp, (F13.eval 82 (by omega)).trans (show _ = Value.int .i64 ((n2 : Nat) : Int) from by simp [upd, ee0, ee1, ee2, ee7])]; first | rfl | simp [go_sem]) fun F14 => ?_
      refine lyp F14 rfl HC2 rfl (by omega) (wanted_none rfl) (v := Value.int .i64 c2) (fun wr hwr => by simp only [execOp, (F14.eval 83 (by omega)).trans (show _ = Value.int .i64 c2 from by simp [upd, ee0, ee1, ee2, ee7])]; first | rfl | simp [go_sem]) fun F15 => ?_
      refine ⟨fun _ => HC2, ?_⟩
      refine hK _ _ ?_
      clear F0 F1 F2 F3 F4 F5 F6 F7 F8 F9 F10 F11 F12 F13 F14 F15 ee0 ee1 ee2 ee7 HCC HC2
      simp only [Act.put, List.setIfInBounds_toArray, List.set_cons_succ, List.set_cons_zero]
      clear p0 hsl
      have HSZ : Hid (PSt L0 pb hb mb rb me N #[.pointer (some ⟨hb, 0, none⟩), .pointer (some ⟨rb, 0, none⟩), dg, kn, bk] v v3 L1 A1 w (({ w8 with drawn := w8.drawn + 1 } : World))) := HS8.out.more (show Below w8.heap.size w8 (({ w8 with drawn := w8.drawn + 1 } : World)) from Below.drew (Below.refl _ _))
      have HS9 : Hid (PSt L0 pb hb mb rb me N #[.pointer (some ⟨hb, 0, none⟩), .pointer (some ⟨rb, 0, none⟩), dg, kn, bk] v v3 L2 A1 w w9) := HSZ.out.take hV9 hc9
      have hy9 : World.ownsRow w9 w.heap.size 46 7 (.slice ya8 KK yc8) KK (flatV (List.replicate KK badE)) := HSZ.out.rowTake (ownsRow_same HY8.out (fun _ _ => rfl)) hc9
      obtain ⟨_, _, hyv9, _, _, hfy9, _⟩ := own_fromV hy9
      cases hyv9
      have p1 : w9.cell? ⟨pb, 1, none⟩ = some (.pointer (some ⟨rb, 0, none⟩)) := HS9.out.box.cell 1
      have HRC : Hid _ := HR2.out w9 v3 ya8 yc8 HS9.out.rv hfy9 (fun _ b off e => by
        subst e
        have := HS9.out.row hy9 b
        by_cases hoff : off = 0
        · subst hoff
          exact ⟨(this rfl).2.2.2.1, (this rfl).2.2.2.2⟩
        · rcases hy9.2 with ⟨hh, _⟩ | ⟨g2, c2', cur, hh, _⟩
          · cases hh
          · cases hh
            exact absurd rfl hoff)
      clear hV9 hc9 HSZ hy9 hfy9 HS8 HX8 HF8 HY8 HRU
      go_wp2_with fail
      refine Calls.mono HRC.out ?_
      rintro e9 w10 ⟨rfl, hP10⟩
      obtain ⟨v10, hs10⟩ := HS9.out.rtake hP10
      have HS10 : Hid (PSt L0 pb hb mb rb me N #[.pointer (some ⟨hb, 0, none⟩), .pointer (some ⟨rb, 0, none⟩), dg, kn, bk] v v10 L2 A2 w w10) := hs10
      clear hP10 hs10 HS9 p1 HRC
      go_wp2_with fail
      go_ret
      exact ⟨rfl, v10, L2, A2, HS10.out.vw, HS10.out.rv, HAG2.out.mono (Nat.le_succ _), HA2.out, HS10.out.chg, HS10.out.at'⟩
end Go.Proofs.Ytifgmefdlmjocaa
