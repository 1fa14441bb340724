import Derived.Test.YtjojhhkbebddmaaE10
namespace Go.Proofs.Ytjojhhkbebddmaa
open Go.RowKit Go.PlainAid
set_option linter.unusedVariables false
set_option linter.unusedSimpArgs false
structure EB (p q : Nat) (a b c d tr tk : Int) (W : World) : Prop where
  b4 : Blk W p #[.int .i64 a, .int .i64 b] 49
  b5 : Blk W (p + 1) #[.int .i64 c, .int .i64 d] 49
  b7 : Blk W q #[.int .i64 tr, .int .i64 tk] 49
theorem EB.keep {p q : Nat} {a b c d tr tk : Int} {W W' : World} {S : Nat → Prop} (h : EB p q a b c d tr tk W) (hc : Chg S W W') (h1 : ¬ S p) (h2 : ¬ S (p + 1)) (h3 : ¬ S q) : EB p q a b c d tr tk W' := ⟨hc.blk h.b4 h1, hc.blk h.b5 h2, hc.blk h.b7 h3⟩
theorem EB.up {p q : Nat} {a b c d tr tk : Int} {W W' : World} (h : EB p q a b c d tr tk W) (hb : Below W.heap.size W W') : EB p q a b c d tr tk W' := ⟨h.b4.up hb, h.b5.up hb, h.b7.up hb⟩
theorem EB.cells {p q : Nat} {a b c d tr tk : Int} {W : World} (h : EB p q a b c d tr tk W) : (W.cell? ⟨p, 0, none⟩ = some (.int .i64 a) ∧ W.cell? ⟨p, 1, none⟩ = some (.int .i64 b)) ∧ (W.cell? ⟨p + 1, 0, none⟩ = some (.int .i64 c) ∧ W.cell? ⟨p + 1, 1, none⟩ = some (.int .i64 d)) ∧ W.cell? ⟨q, 0, none⟩ = some (.int .i64 tr) ∧ W.cell? ⟨q, 1, none⟩ = some (.int .i64 tk) :=
  ⟨⟨h.b4.cell 0, h.b4.cell 1⟩, ⟨h.b5.cell 0, h.b5.cell 1⟩, h.b7.cell 0, h.b7.cell 1⟩
def hearK (x : EV) (o : Ep) : EV := if other x o = true then { x with kn := up x.kn o.k.toNat (max (x.kn o.k.toNat) o.r) } else x
def endK (x : EV) (e : Ep) : EV := if other x e = true then { x with kn := up x.kn e.k.toNat (max (x.kn e.k.toNat) e.r), fi := up x.fi e.k.toNat (max (x.fi e.k.toNat) e.r) } else x
def enX (x : EV) (e o : Ep) : EV := turnX (hearK (endK x e) o) (tgtE x x.n)
def enA (x : EV) (e o : Ep) : List Ac := turnA (hearK (endK x e) o) (tgtE x x.n)
/-- The second half of End. -/
structure EndS (L mb cb p q : Nat) (a b c d tr tk : Int) (w : World) (y : EV) (W : World) : Prop where
  eb : EB p q a b c d tr tk W
  mm : MM L mb cb y [] W
  ch : Chg (mown mb cb) w W
theorem EndS.up {L mb cb p q : Nat} {a b c d tr tk : Int} {w W W' : World} {y : EV} (h : EndS L mb cb p q a b c d tr tk w y W) (hb : Below W.heap.size W W') : EndS L mb cb p q a b c d tr tk w y W' :=
  ⟨h.eb.up hb, h.mm.more hb, h.ch.trans (Chg.ofBelow (fun _ => False) hb) (fun _ _ e => e.elim)⟩
theorem EndS.go {L mb cb p q : Nat} {a b c d tr tk : Int} {w W W' : World} {y y' : EV} (h : EndS L mb cb p q a b c d tr tk w y W) (hp : mb < p) (hq : p < q) (hc : Chg (fun k => k = mb) W W') (hm : MM L mb cb y' [] W') : EndS L mb cb p q a b c d tr tk w y' W' :=
  ⟨h.eb.keep hc (by omega) (by omega) (by omega), hm, h.ch.trans hc (fun j _ e => .inl e)⟩
theorem end_start {L mb cb : Nat} {x : EV} (a b c d tr tk : Int) (w w1 : World) (hM : MM L mb cb x [] w) (hb1 : Below (w.heap.size + 1 + 1) ((w.alloc (.cells #[.int .i64 a, .int .i64 b] 49)).alloc (.cells #[.int .i64 c, .int .i64 d] 49)) w1) :
    EndS L mb cb w.heap.size w1.heap.size a b c d tr tk w x (w1.alloc (.cells #[.int .i64 tr, .int .i64 tk] 49)) ∧ w.heap.size + 1 < w1.heap.size := by
  have hsz : w.heap.size + 1 < w1.heap.size := by
    have h1 := hb1.size
    simp only [World.size_alloc] at h1
    omega
  have h0 : Blk (w.alloc (.cells #[.int .i64 a, .int .i64 b] 49)) w.heap.size #[.int .i64 a, .int .i64 b] 49 := heap_alloc_new w _
  have h2 := heap_alloc_new (w.alloc (.cells #[.int .i64 a, .int .i64 b] 49)) (.cells #[.int .i64 c, .int .i64 d] 49)
  simp only [World.size_alloc] at h2
  have hbb : Below w.heap.size w (w1.alloc (.cells #[.int .i64 tr, .int .i64 tk] 49)) := bal (bgo (bal (bal (Below.refl _ _) (Nat.le_refl _) _) (Nat.le_refl _) _) (by simpa using hb1) (Nat.le_refl _)) (Nat.le_refl _) _
  refine ⟨⟨⟨?_, ?_, heap_alloc_new w1 _⟩, hM.more hbb, Chg.ofBelow _ hbb⟩, hsz⟩
  · exact ((Blk.allc h0 _).below hb1 (by omega)).allc _
  · exact (Blk.below h2 hb1 (by omega)).allc _
theorem other_hear {x : EV} {e o : Ep} : other (endK x e) o = other x o := by
  unfold endK
  split <;> rfl
theorem EV.Nm.endK {x : EV} (h : x.Nm) (e : Ep) : (endK x e).Nm := by
  unfold Go.Proofs.Ytjojhhkbebddmaa.endK
  split
  · exact ⟨h.n, h.me, h.hd⟩
  · exact h
theorem EV.Nm.hearK {x : EV} (h : x.Nm) (e : Ep) : (hearK x e).Nm := by
  unfold Go.Proofs.Ytjojhhkbebddmaa.hearK
  split
  · exact ⟨h.n, h.me, h.hd⟩
  · exact h
set_option maxRecDepth 100000 in
set_option maxHeartbeats 6400000 in
theorem end_a {L mb cb : Nat} {x : EV} (a c tr tk : Int) (kb : Nat) (kd : Nat) (w : World) (hM : MM L mb cb x [] w) (hx : x.Nm) (hT : tgtE x x.n = ⟨tr, tk⟩) (d1 : other x ⟨a, (kb : Int)⟩ = true) (d2 : other x ⟨c, (kd : Int)⟩ = true) (hkb : kb < 16) (hkd : kd < 16) : Calls Try.prog 37 #[.pointer (some ⟨mb, 0, none⟩), .agg #[.int .i64 a, .int .i64 (kb : Int)], .agg #[.int .i64 c, .int .i64 (kd : Int)]] w fun e w' => ∃ v, e = .returned v ∧ w'.ownsRow w.heap.size 56 6 v (enA x ⟨a, (kb : Int)⟩ ⟨c, (kd : Int)⟩).length (flatA (enA x ⟨a, (kb : Int)⟩ ⟨c, (kd : Int)⟩)) ∧ MM L mb cb (enX x ⟨a, (kb : Int)⟩ ⟨c, (kd : Int)⟩) [] w' ∧ Chg (mown mb cb) w w' := by
  have hn2 := hx.n.2
  have hm := hM.b.lt
  have HM : Hid _ := hM
  have HX : Hid _ := hx
  have HT : Hid (∀ W, Below w.heap.size w W → Calls Try.prog 35 #[.pointer (some ⟨mb, 0, none⟩)] W fun e w' => e = .returned (epV ⟨tr, tk⟩) ∧ Below W.heap.size W w') := fun W hW => by rw [← hT]; exact target_any W (hM.more hW) hn2
  have HTT : Hid _ := hT
  clear hM hT hx
  unfold epV at *
  go_enter Try.func37, Try.ntmps37
  go_upto_region 4 with (first
    | (go_at_call 35; refine Calls.mono (HT.out _ (bal (bal (Below.refl _ _) (Nat.le_refl _) _) (Nat.le_refl _) _)) ?_; rintro e w1 ⟨rfl, hb1⟩; obtain ⟨hS, hz⟩ := end_start a (kb : Int) c (kd : Int) tr tk w w1 HM.out (by simpa using hb1); have HS : Hid _ := hS; obtain ⟨⟨p0, p1⟩, ⟨p2, p3⟩, p4, p5⟩ := hS.eb.cells; clear hS)
    | (go_at_call 61; refine Calls.mono (isOther_any a kb _ HS.out.mm) ?_; rw [show other _ ⟨a, kb⟩ = true from d1]; rintro e w2 ⟨rfl, hb2⟩; have hS := HS.out.up hb2; have HS : Hid _ := hS; obtain ⟨⟨p0, p1⟩, ⟨p2, p3⟩, p4, p5⟩ := hS.eb.cells; clear hS)
    | (go_at_call 62; refine Calls.mono (learn_any a kb _ HS.out.mm hkb) ?_; rintro e w3 ⟨rfl, hm3, hc3⟩; have hS := HS.out.go hm (by omega) hc3 hm3; have HS : Hid _ := hS; obtain ⟨⟨p0, p1⟩, ⟨p2, p3⟩, p4, p5⟩ := hS.eb.cells; have cf := hS.mm.cfi hkb; have fk := hS.mm.b.frozen (18 + kb); clear hS)
    | fail)
  have cf0 : w3.cell? ⟨mb, 18 + kb, none⟩ = some (.int .i64 (x.fi kb)) := cf
  obtain ⟨v, hv⟩ : ∃ v, v = x.fi kb := ⟨_, rfl⟩
  rw [← hv] at cf0
  have hmx : (if v < a then a else v) = max (x.fi kb) a := by rw [hv]; split <;> omega
  have hK : endK x ⟨a, (kb : Int)⟩ = { x with kn := up x.kn kb (max (x.kn kb) a), fi := up x.fi kb (max (x.fi kb) a) } := by
    unfold endK
    rw [if_pos d1]
    rfl
  have hS1 := (HS.out.go hm (by omega) (setCell_chg w3 mb (18 + kb) (.int .i64 (if v < a then a else v))) (HS.out.mm.setFi hkb _)).up ((Below.refl _ _).drew)
  rw [hmx] at hS1
  have HS1 : Hid (EndS L mb cb w.heap.size w1.heap.size a (kb : Int) c (kd : Int) tr tk w (endK x ⟨a, (kb : Int)⟩) (w3.setCell ⟨mb, 18 + kb, none⟩ (.int .i64 (if v < a then a else v))).drew) := show EndS _ _ _ _ _ _ _ _ _ _ _ _ _ _ from by rw [hK, hmx]; exact hS1
  clear cf hv hK hmx hS1
  go_region
  clear cf0 fk p0 p1 p2 p3 p4 p5 HS
  have HS : Hid _ := HS1
  generalize (w3.setCell ⟨mb, 18 + kb, none⟩ (.int .i64 (if v < a then a else v))).drew = w4 at *
  obtain ⟨⟨p0, p1⟩, ⟨p2, p3⟩, p4, p5⟩ := HS.out.eb.cells
  clear HS1
  have HY : Hid (EV.mk (endK x ⟨a, (kb : Int)⟩).me (endK x ⟨a, (kb : Int)⟩).n (Go.Proofs.Ytjojhhkbebddmaa.up (endK x ⟨a, (kb : Int)⟩).kn kd (max ((endK x ⟨a, (kb : Int)⟩).kn kd) c)) (endK x ⟨a, (kb : Int)⟩).fi (endK x ⟨a, (kb : Int)⟩).need (endK x ⟨a, (kb : Int)⟩).rep (endK x ⟨a, (kb : Int)⟩).hd).Nm := ⟨(HX.out.endK ⟨a, (kb : Int)⟩).n, (HX.out.endK ⟨a, (kb : Int)⟩).me, (HX.out.endK ⟨a, (kb : Int)⟩).hd⟩
  go_wp2_with (first
    | (go_at_call 61; refine Calls.mono (isOther_any c kd _ HS.out.mm) ?_; rw [show other _ ⟨c, kd⟩ = true from other_hear.trans d2]; rintro e w2 ⟨rfl, hb2⟩; have hS := HS.out.up hb2; have HS : Hid _ := hS; obtain ⟨⟨p0, p1⟩, ⟨p2, p3⟩, p4, p5⟩ := hS.eb.cells; clear hS)
    | (go_at_call 62; refine Calls.mono (learn_any c kd _ HS.out.mm hkd) ?_; rintro e w3 ⟨rfl, hm3, hc3⟩; have hS := HS.out.go hm (by omega) hc3 hm3; have HS : Hid _ := hS; obtain ⟨⟨p0, p1⟩, ⟨p2, p3⟩, p4, p5⟩ := hS.eb.cells; clear hS)
    | (go_at_call 63; refine Calls.mono (turn_any (⟨tr, tk⟩ : Ep) _ HS.out.mm HY.out) ?_; rintro e w6 ⟨v6, rfl, ho6, hm6, hc6⟩)
    | fail)
  all_goals
   go_ret
   have hH : hearK (endK x ⟨a, (kb : Int)⟩) ⟨c, (kd : Int)⟩ = { endK x ⟨a, (kb : Int)⟩ with kn := up (endK x ⟨a, (kb : Int)⟩).kn kd (max ((endK x ⟨a, (kb : Int)⟩).kn kd) c) } := by
     unfold hearK
     rw [if_pos (other_hear.trans d2)]
     rfl
   have hsz := HS.out.ch.size
   unfold enA enX
   rw [HTT.out, hH]
   exact ⟨v6, rfl, ownsRow_mono ho6 hsz, hm6, HS.out.ch.trans hc6 (fun j _ e => e)⟩
set_option maxRecDepth 100000 in
set_option maxHeartbeats 6400000 in
theorem end_b {L mb cb : Nat} {x : EV} (a c tr tk : Int) (kb : Nat) (d : Int) (w : World) (hM : MM L mb cb x [] w) (hx : x.Nm) (hT : tgtE x x.n = ⟨tr, tk⟩) (d1 : other x ⟨a, (kb : Int)⟩ = true) (d2 : other x ⟨c, d⟩ = false) (hkb : kb < 16) : Calls Try.prog 37 #[.pointer (some ⟨mb, 0, none⟩), .agg #[.int .i64 a, .int .i64 (kb : Int)], .agg #[.int .i64 c, .int .i64 d]] w fun e w' => ∃ v, e = .returned v ∧ w'.ownsRow w.heap.size 56 6 v (enA x ⟨a, (kb : Int)⟩ ⟨c, d⟩).length (flatA (enA x ⟨a, (kb : Int)⟩ ⟨c, d⟩)) ∧ MM L mb cb (enX x ⟨a, (kb : Int)⟩ ⟨c, d⟩) [] w' ∧ Chg (mown mb cb) w w' := by
  have hn2 := hx.n.2
  have hm := hM.b.lt
  have HM : Hid _ := hM
  have HX : Hid _ := hx
  have HT : Hid (∀ W, Below w.heap.size w W → Calls Try.prog 35 #[.pointer (some ⟨mb, 0, none⟩)] W fun e w' => e = .returned (epV ⟨tr, tk⟩) ∧ Below W.heap.size W w') := fun W hW => by rw [← hT]; exact target_any W (hM.more hW) hn2
  have HTT : Hid _ := hT
  clear hM hT hx
  unfold epV at *
  go_enter Try.func37, Try.ntmps37
  go_upto_region 4 with (first
    | (go_at_call 35; refine Calls.mono (HT.out _ (bal (bal (Below.refl _ _) (Nat.le_refl _) _) (Nat.le_refl _) _)) ?_; rintro e w1 ⟨rfl, hb1⟩; obtain ⟨hS, hz⟩ := end_start a (kb : Int) c d tr tk w w1 HM.out (by simpa using hb1); have HS : Hid _ := hS; obtain ⟨⟨p0, p1⟩, ⟨p2, p3⟩, p4, p5⟩ := hS.eb.cells; clear hS)
    | (go_at_call 61; refine Calls.mono (isOther_any a kb _ HS.out.mm) ?_; rw [show other _ ⟨a, kb⟩ = true from d1]; rintro e w2 ⟨rfl, hb2⟩; have hS := HS.out.up hb2; have HS : Hid _ := hS; obtain ⟨⟨p0, p1⟩, ⟨p2, p3⟩, p4, p5⟩ := hS.eb.cells; clear hS)
    | (go_at_call 62; refine Calls.mono (learn_any a kb _ HS.out.mm hkb) ?_; rintro e w3 ⟨rfl, hm3, hc3⟩; have hS := HS.out.go hm (by omega) hc3 hm3; have HS : Hid _ := hS; obtain ⟨⟨p0, p1⟩, ⟨p2, p3⟩, p4, p5⟩ := hS.eb.cells; have cf := hS.mm.cfi hkb; have fk := hS.mm.b.frozen (18 + kb); clear hS)
    | fail)
  have cf0 : w3.cell? ⟨mb, 18 + kb, none⟩ = some (.int .i64 (x.fi kb)) := cf
  obtain ⟨v, hv⟩ : ∃ v, v = x.fi kb := ⟨_, rfl⟩
  rw [← hv] at cf0
  have hmx : (if v < a then a else v) = max (x.fi kb) a := by rw [hv]; split <;> omega
  have hK : endK x ⟨a, (kb : Int)⟩ = { x with kn := up x.kn kb (max (x.kn kb) a), fi := up x.fi kb (max (x.fi kb) a) } := by
    unfold endK
    rw [if_pos d1]
    rfl
  have hS1 := (HS.out.go hm (by omega) (setCell_chg w3 mb (18 + kb) (.int .i64 (if v < a then a else v))) (HS.out.mm.setFi hkb _)).up ((Below.refl _ _).drew)
  rw [hmx] at hS1
  have HS1 : Hid (EndS L mb cb w.heap.size w1.heap.size a (kb : Int) c d tr tk w (endK x ⟨a, (kb : Int)⟩) (w3.setCell ⟨mb, 18 + kb, none⟩ (.int .i64 (if v < a then a else v))).drew) := show EndS _ _ _ _ _ _ _ _ _ _ _ _ _ _ from by rw [hK, hmx]; exact hS1
  clear cf hv hK hmx hS1
  go_region
  clear cf0 fk p0 p1 p2 p3 p4 p5 HS
  have HS : Hid _ := HS1
  generalize (w3.setCell ⟨mb, 18 + kb, none⟩ (.int .i64 (if v < a then a else v))).drew = w4 at *
  obtain ⟨⟨p0, p1⟩, ⟨p2, p3⟩, p4, p5⟩ := HS.out.eb.cells
  clear HS1
  have HY : Hid (endK x ⟨a, (kb : Int)⟩).Nm := HX.out.endK ⟨a, (kb : Int)⟩
  go_wp2_with (first
    | (go_at_call 61; refine Calls.mono (isOther_any c d _ HS.out.mm) ?_; rw [show other _ ⟨c, d⟩ = false from other_hear.trans d2]; rintro e w2 ⟨rfl, hb2⟩; have hS := HS.out.up hb2; have HS : Hid _ := hS; obtain ⟨⟨p0, p1⟩, ⟨p2, p3⟩, p4, p5⟩ := hS.eb.cells; clear hS)
    | (go_at_call 63; refine Calls.mono (turn_any (⟨tr, tk⟩ : Ep) _ HS.out.mm HY.out) ?_; rintro e w6 ⟨v6, rfl, ho6, hm6, hc6⟩)
    | fail)
  all_goals
   go_ret
   have hH : hearK (endK x ⟨a, (kb : Int)⟩) ⟨c, d⟩ = endK x ⟨a, (kb : Int)⟩ := by
     unfold hearK
     rw [if_neg (by rw [other_hear.trans d2]; decide)]
   have hsz := HS.out.ch.size
   unfold enA enX
   rw [HTT.out, hH]
   exact ⟨v6, rfl, ownsRow_mono ho6 hsz, hm6, HS.out.ch.trans hc6 (fun j _ e => e)⟩
set_option maxRecDepth 100000 in
set_option maxHeartbeats 6400000 in
theorem end_c {L mb cb : Nat} {x : EV} (a c tr tk : Int) (b : Int) (kd : Nat) (w : World) (hM : MM L mb cb x [] w) (hx : x.Nm) (hT : tgtE x x.n = ⟨tr, tk⟩) (d1 : other x ⟨a, b⟩ = false) (d2 : other x ⟨c, (kd : Int)⟩ = true) (hkd : kd < 16) : Calls Try.prog 37 #[.pointer (some ⟨mb, 0, none⟩), .agg #[.int .i64 a, .int .i64 b], .agg #[.int .i64 c, .int .i64 (kd : Int)]] w fun e w' => ∃ v, e = .returned v ∧ w'.ownsRow w.heap.size 56 6 v (enA x ⟨a, b⟩ ⟨c, (kd : Int)⟩).length (flatA (enA x ⟨a, b⟩ ⟨c, (kd : Int)⟩)) ∧ MM L mb cb (enX x ⟨a, b⟩ ⟨c, (kd : Int)⟩) [] w' ∧ Chg (mown mb cb) w w' := by
  have hn2 := hx.n.2
  have hm := hM.b.lt
  have HM : Hid _ := hM
  have HX : Hid _ := hx
  have HT : Hid (∀ W, Below w.heap.size w W → Calls Try.prog 35 #[.pointer (some ⟨mb, 0, none⟩)] W fun e w' => e = .returned (epV ⟨tr, tk⟩) ∧ Below W.heap.size W w') := fun W hW => by rw [← hT]; exact target_any W (hM.more hW) hn2
  have HTT : Hid _ := hT
  clear hM hT hx
  unfold epV at *
  go_enter Try.func37, Try.ntmps37
  have hK : endK x ⟨a, b⟩ = x := by
    unfold endK
    rw [if_neg (by rw [d1]; decide)]
  have HEK : Hid (endK x ⟨a, b⟩ = x) := hK
  clear hK
  go_upto_region 5 with (first
    | (go_at_call 35; refine Calls.mono (HT.out _ (bal (bal (Below.refl _ _) (Nat.le_refl _) _) (Nat.le_refl _) _)) ?_; rintro e w1 ⟨rfl, hb1⟩; obtain ⟨hS, hz⟩ := end_start a b c (kd : Int) tr tk w w1 HM.out (by simpa using hb1); have HS : Hid _ := hS; obtain ⟨⟨p0, p1⟩, ⟨p2, p3⟩, p4, p5⟩ := hS.eb.cells; clear hS)
    | (go_at_call 61; refine Calls.mono (isOther_any a b _ HS.out.mm) ?_; rw [show other _ ⟨a, b⟩ = false from d1]; rintro e w2 ⟨rfl, hb2⟩; have hS := HS.out.up hb2; have HS : Hid _ := hS; obtain ⟨⟨p0, p1⟩, ⟨p2, p3⟩, p4, p5⟩ := hS.eb.cells; clear hS)
    | fail)
  have HS : Hid (EndS L mb cb w.heap.size w1.heap.size a b c (kd : Int) tr tk w (endK x ⟨a, b⟩) w2) := show EndS _ _ _ _ _ _ _ _ _ _ _ _ _ _ from by rw [HEK.out]; exact HS.out
  have HY : Hid (EV.mk (endK x ⟨a, b⟩).me (endK x ⟨a, b⟩).n (Go.Proofs.Ytjojhhkbebddmaa.up (endK x ⟨a, b⟩).kn kd (max ((endK x ⟨a, b⟩).kn kd) c)) (endK x ⟨a, b⟩).fi (endK x ⟨a, b⟩).need (endK x ⟨a, b⟩).rep (endK x ⟨a, b⟩).hd).Nm := ⟨(HX.out.endK ⟨a, b⟩).n, (HX.out.endK ⟨a, b⟩).me, (HX.out.endK ⟨a, b⟩).hd⟩
  go_wp2_with (first
    | (go_at_call 61; refine Calls.mono (isOther_any c kd _ HS.out.mm) ?_; rw [show other _ ⟨c, kd⟩ = true from other_hear.trans d2]; rintro e w2 ⟨rfl, hb2⟩; have hS := HS.out.up hb2; have HS : Hid _ := hS; obtain ⟨⟨p0, p1⟩, ⟨p2, p3⟩, p4, p5⟩ := hS.eb.cells; clear hS)
    | (go_at_call 62; refine Calls.mono (learn_any c kd _ HS.out.mm hkd) ?_; rintro e w3 ⟨rfl, hm3, hc3⟩; have hS := HS.out.go hm (by omega) hc3 hm3; have HS : Hid _ := hS; obtain ⟨⟨p0, p1⟩, ⟨p2, p3⟩, p4, p5⟩ := hS.eb.cells; clear hS)
    | (go_at_call 63; refine Calls.mono (turn_any (⟨tr, tk⟩ : Ep) _ HS.out.mm HY.out) ?_; rintro e w6 ⟨v6, rfl, ho6, hm6, hc6⟩)
    | fail)
  all_goals
   go_ret
   have hH : hearK (endK x ⟨a, b⟩) ⟨c, (kd : Int)⟩ = { endK x ⟨a, b⟩ with kn := up (endK x ⟨a, b⟩).kn kd (max ((endK x ⟨a, b⟩).kn kd) c) } := by
     unfold hearK
     rw [if_pos (other_hear.trans d2)]
     rfl
   have hsz := HS.out.ch.size
   unfold enA enX
   rw [HTT.out, hH]
   exact ⟨v6, rfl, ownsRow_mono ho6 hsz, hm6, HS.out.ch.trans hc6 (fun j _ e => e)⟩
set_option maxRecDepth 100000 in
set_option maxHeartbeats 6400000 in
theorem end_d {L mb cb : Nat} {x : EV} (a c tr tk : Int) (b : Int) (d : Int) (w : World) (hM : MM L mb cb x [] w) (hx : x.Nm) (hT : tgtE x x.n = ⟨tr, tk⟩) (d1 : other x ⟨a, b⟩ = false) (d2 : other x ⟨c, d⟩ = false) : Calls Try.prog 37 #[.pointer (some ⟨mb, 0, none⟩), .agg #[.int .i64 a, .int .i64 b], .agg #[.int .i64 c, .int .i64 d]] w fun e w' => ∃ v, e = .returned v ∧ w'.ownsRow w.heap.size 56 6 v (enA x ⟨a, b⟩ ⟨c, d⟩).length (flatA (enA x ⟨a, b⟩ ⟨c, d⟩)) ∧ MM L mb cb (enX x ⟨a, b⟩ ⟨c, d⟩) [] w' ∧ Chg (mown mb cb) w w' := by
  have hn2 := hx.n.2
  have hm := hM.b.lt
  have HM : Hid _ := hM
  have HX : Hid _ := hx
  have HT : Hid (∀ W, Below w.heap.size w W → Calls Try.prog 35 #[.pointer (some ⟨mb, 0, none⟩)] W fun e w' => e = .returned (epV ⟨tr, tk⟩) ∧ Below W.heap.size W w') := fun W hW => by rw [← hT]; exact target_any W (hM.more hW) hn2
  have HTT : Hid _ := hT
  clear hM hT hx
  unfold epV at *
  go_enter Try.func37, Try.ntmps37
  have hK : endK x ⟨a, b⟩ = x := by
    unfold endK
    rw [if_neg (by rw [d1]; decide)]
  have HEK : Hid (endK x ⟨a, b⟩ = x) := hK
  clear hK
  go_upto_region 5 with (first
    | (go_at_call 35; refine Calls.mono (HT.out _ (bal (bal (Below.refl _ _) (Nat.le_refl _) _) (Nat.le_refl _) _)) ?_; rintro e w1 ⟨rfl, hb1⟩; obtain ⟨hS, hz⟩ := end_start a b c d tr tk w w1 HM.out (by simpa using hb1); have HS : Hid _ := hS; obtain ⟨⟨p0, p1⟩, ⟨p2, p3⟩, p4, p5⟩ := hS.eb.cells; clear hS)
    | (go_at_call 61; refine Calls.mono (isOther_any a b _ HS.out.mm) ?_; rw [show other _ ⟨a, b⟩ = false from d1]; rintro e w2 ⟨rfl, hb2⟩; have hS := HS.out.up hb2; have HS : Hid _ := hS; obtain ⟨⟨p0, p1⟩, ⟨p2, p3⟩, p4, p5⟩ := hS.eb.cells; clear hS)
    | fail)
  have HS : Hid (EndS L mb cb w.heap.size w1.heap.size a b c d tr tk w (endK x ⟨a, b⟩) w2) := show EndS _ _ _ _ _ _ _ _ _ _ _ _ _ _ from by rw [HEK.out]; exact HS.out
  have HY : Hid (endK x ⟨a, b⟩).Nm := HX.out.endK ⟨a, b⟩
  go_wp2_with (first
    | (go_at_call 61; refine Calls.mono (isOther_any c d _ HS.out.mm) ?_; rw [show other _ ⟨c, d⟩ = false from other_hear.trans d2]; rintro e w2 ⟨rfl, hb2⟩; have hS := HS.out.up hb2; have HS : Hid _ := hS; obtain ⟨⟨p0, p1⟩, ⟨p2, p3⟩, p4, p5⟩ := hS.eb.cells; clear hS)
    | (go_at_call 63; refine Calls.mono (turn_any (⟨tr, tk⟩ : Ep) _ HS.out.mm HY.out) ?_; rintro e w6 ⟨v6, rfl, ho6, hm6, hc6⟩)
    | fail)
  all_goals
   go_ret
   have hH : hearK (endK x ⟨a, b⟩) ⟨c, d⟩ = endK x ⟨a, b⟩ := by
     unfold hearK
     rw [if_neg (by rw [other_hear.trans d2]; decide)]
   have hsz := HS.out.ch.size
   unfold enA enX
   rw [HTT.out, hH]
   exact ⟨v6, rfl, ownsRow_mono ho6 hsz, hm6, HS.out.ch.trans hc6 (fun j _ e => e)⟩
theorem end_any {L mb cb : Nat} {x : EV} (e o : Ep) (w : World) (hM : MM L mb cb x [] w) (hx : x.Nm) : Calls Try.prog 37 #[.pointer (some ⟨mb, 0, none⟩), epV e, epV o] w fun r w' => ∃ v, r = .returned v ∧ w'.ownsRow w.heap.size 56 6 v (enA x e o).length (flatA (enA x e o)) ∧ MM L mb cb (enX x e o) [] w' ∧ Chg (mown mb cb) w w' := by
  obtain ⟨a, b⟩ := e
  obtain ⟨c, d⟩ := o
  obtain ⟨tr, tk, hT⟩ : ∃ tr tk, tgtE x x.n = ⟨tr, tk⟩ := ⟨_, _, rfl⟩
  have hn := hx.n.2
  have hk : ∀ {u v : Int}, other x ⟨u, v⟩ = true → ∃ k : Nat, v = (k : Int) ∧ k < 16 := fun {u v} h => by
    unfold other at h
    simp only [decide_eq_true_eq] at h
    exact ⟨v.toNat, by omega, by omega⟩
  cases h1 : other x ⟨a, b⟩ <;> cases h2 : other x ⟨c, d⟩
  · exact end_d a c tr tk b d w hM hx hT h1 h2
  · obtain ⟨kd, rfl, hkd⟩ := hk h2
    exact end_c a c tr tk b kd w hM hx hT h1 h2 hkd
  · obtain ⟨kb, rfl, hkb⟩ := hk h1
    exact end_b a c tr tk kb d w hM hx hT h1 h2 hkb
  · obtain ⟨kb, rfl, hkb⟩ := hk h1
    obtain ⟨kd, rfl, hkd⟩ := hk h2
    exact end_a a c tr tk kb kd w hM hx hT h1 h2 hkb hkd
end Go.Proofs.Ytjojhhkbebddmaa
