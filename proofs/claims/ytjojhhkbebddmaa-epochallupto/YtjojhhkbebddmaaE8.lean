import Derived.Test.YtjojhhkbebddmaaE7
import Derived.Deep.RegionWith
namespace Go.Proofs.Ytjojhhkbebddmaa
open Go.RowKit Go.PlainAid
set_option linter.unusedVariables false
set_option linter.unusedSimpArgs false
def isE0 (a b : Int) : Bool := decide ((⟨a, b⟩ : Ep) = e0)
def sameE (a b c d : Int) : Bool := decide ((⟨a, b⟩ : Ep) = ⟨c, d⟩)
theorem isNone_b (a b : Int) (w : World) : Calls Try.prog 34 #[.agg #[.int .i64 a, .int .i64 b]] w fun e w' => e = .returned (.bool (isE0 a b)) ∧ Below w.heap.size w w' := isNone_any a b w
theorem neq49 (a b c d : Int) (W : World) : (binOp .neq 49 (.agg #[.int .i64 a, .int .i64 b]) (.agg #[.int .i64 c, .int .i64 d])).run Try.prog W = .ok (.bool (!sameE a b c d)) W := by
  unfold sameE
  simp [go_sem]
  by_cases h1 : a = c
  · by_cases h2 : b = d <;> simp [h1, h2]
  · simp [h1]
/-- What a turn does. -/
def endX (x : EV) : EV := { x with fi := up x.fi x.me (x.kn x.me), need := false, rep := fun _ => false, hd := fun _ => 0 }
def turnX (x : EV) (b : Ep) : EV := if liveE x x.me ≠ e0 ∧ tgtE x x.n ≠ liveE x x.me then endX x else x
def turnA (x : EV) (b : Ep) : List Ac :=
  if liveE x x.me ≠ e0 ∧ tgtE x x.n ≠ liveE x x.me then [⟨3, -1, liveE x x.me, tgtE x x.n⟩, ⟨5, x.me, liveE x x.me, e0⟩, ⟨2, (tgtE x x.n).k, tgtE x x.n, e0⟩]
  else if tgtE x x.n ≠ e0 ∧ tgtE x x.n ≠ liveE x x.me ∧ tgtE x x.n ≠ b then [⟨2, (tgtE x x.n).k, tgtE x x.n, e0⟩]
  else if tgtE x x.n = e0 ∧ b ≠ e0 then [⟨6, x.me, e0, e0⟩] else []
/-- The variables of a turn. -/
structure TB (p q : Nat) (br bk er ek tr tk : Int) (W : World) : Prop where
  b3 : Blk W p #[.int .i64 br, .int .i64 bk] 49
  b5 : Blk W q #[.int .i64 er, .int .i64 ek] 49
  b6 : Blk W (q + 1) #[.int .i64 tr, .int .i64 tk] 49
  b7 : Blk W (q + 2) #[.int .i64 2, .int .i64 tk, .int .i64 tr, .int .i64 tk, .int .i64 0, .int .i64 0] 56
theorem TB.keep {p q : Nat} {br bk er ek tr tk : Int} {W W' : World} {S : Nat → Prop} (h : TB p q br bk er ek tr tk W) (hc : Chg S W W') (h1 : ¬ S p) (h2 : ¬ S q) (h3 : ¬ S (q + 1)) (h4 : ¬ S (q + 2)) : TB p q br bk er ek tr tk W' :=
  ⟨hc.blk h.b3 h1, hc.blk h.b5 h2, hc.blk h.b6 h3, hc.blk h.b7 h4⟩
theorem TB.up {p q : Nat} {br bk er ek tr tk : Int} {W W' : World} (h : TB p q br bk er ek tr tk W) (hb : Below W.heap.size W W') : TB p q br bk er ek tr tk W' :=
  ⟨h.b3.up hb, h.b5.up hb, h.b6.up hb, h.b7.up hb⟩
theorem TB.cells {p q : Nat} {br bk er ek tr tk : Int} {W : World} (h : TB p q br bk er ek tr tk W) :
    (W.cell? ⟨p, 0, none⟩ = some (.int .i64 br) ∧ W.cell? ⟨p, 1, none⟩ = some (.int .i64 bk)) ∧ (W.cell? ⟨q, 0, none⟩ = some (.int .i64 er) ∧ W.cell? ⟨q, 1, none⟩ = some (.int .i64 ek)) ∧ (W.cell? ⟨q + 1, 0, none⟩ = some (.int .i64 tr) ∧ W.cell? ⟨q + 1, 1, none⟩ = some (.int .i64 tk)) ∧
    (W.cell? ⟨q + 2, 0, none⟩ = some (.int .i64 2) ∧ W.cell? ⟨q + 2, 1, none⟩ = some (.int .i64 tk) ∧ W.cell? ⟨q + 2, 2, none⟩ = some (.int .i64 tr) ∧ W.cell? ⟨q + 2, 3, none⟩ = some (.int .i64 tk) ∧ W.cell? ⟨q + 2, 4, none⟩ = some (.int .i64 0) ∧ W.cell? ⟨q + 2, 5, none⟩ = some (.int .i64 0)) :=
  ⟨⟨h.b3.cell 0, h.b3.cell 1⟩, ⟨h.b5.cell 0, h.b5.cell 1⟩, ⟨h.b6.cell 0, h.b6.cell 1⟩, h.b7.cell 0, h.b7.cell 1, h.b7.cell 2, h.b7.cell 3, h.b7.cell 4, h.b7.cell 5⟩
set_option maxRecDepth 100000 in
set_option maxHeartbeats 6400000 in
theorem turn_a {L mb cb : Nat} {x : EV} (br bk er ek tr tk : Int) (w : World) (hM : MM L mb cb x [] w) (hx : x.Nm) (hE : liveE x x.me = ⟨er, ek⟩) (hT : tgtE x x.n = ⟨tr, tk⟩) (d1 : isE0 er ek = false) (d2 : sameE tr tk er ek = false) : Calls Try.prog 63 #[.pointer (some ⟨mb, 0, none⟩), .agg #[.int .i64 br, .int .i64 bk]] w fun e w' => ∃ v, e = .returned v ∧ w'.ownsRow w.heap.size 56 6 v [(⟨3, -1, ⟨er, ek⟩, ⟨tr, tk⟩⟩ : Ac), ⟨5, x.me, ⟨er, ek⟩, e0⟩, ⟨2, tk, ⟨tr, tk⟩, e0⟩].length (flatA [(⟨3, -1, ⟨er, ek⟩, ⟨tr, tk⟩⟩ : Ac), ⟨5, x.me, ⟨er, ek⟩, e0⟩, ⟨2, tk, ⟨tr, tk⟩, e0⟩]) ∧ MM L mb cb (endX x) [] w' ∧ Chg (mown mb cb) w w' := by
  obtain ⟨⟨hn1, hn2⟩, hme, hhd⟩ := hx
  have HM : Hid _ := hM
  have hm := hM.b.lt
  have hcb := hM.clt
  have HO : Hid (∀ W, Below w.heap.size w W → Calls Try.prog 22 #[.pointer (some ⟨mb, 0, none⟩)] W fun e w' => e = .returned (epV ⟨er, ek⟩) ∧ Below W.heap.size W w') := fun W hW => by rw [← hE]; exact own_any W (hM.more hW) (by omega)
  have HT : Hid (∀ W, Below w.heap.size w W → Calls Try.prog 35 #[.pointer (some ⟨mb, 0, none⟩)] W fun e w' => e = .returned (epV ⟨tr, tk⟩) ∧ Below W.heap.size W w') := fun W hW => by rw [← hT]; exact target_any W (hM.more hW) hn2
  have HN1 := neq49 tr tk er ek
  have HN2 := neq49 tr tk br bk
  clear hE hT hM hhd
  unfold epV at *
  go_enter Try.func63, Try.ntmps63
  go_upto_region 3 with (first
    | (go_at_call 22; refine Calls.mono (HO.out _ ((Below.refl _ _).alloc (Nat.le_refl _) _)) ?_; rintro e w1 ⟨rfl, hb1⟩)
    | (go_at_call 35; refine Calls.mono (HT.out _ (bgo ((Below.refl _ _).alloc (Nat.le_refl _) _) hb1 (Nat.le_refl _))) ?_; rintro e w2 ⟨rfl, hb2⟩)
    | fail)
  have hbw : Below w.heap.size w w2 := bgo (bgo ((Below.refl _ _).alloc (Nat.le_refl _) _) hb1 (Nat.le_refl _)) hb2 (Nat.le_refl _)
  have hz : w.heap.size < w2.heap.size := by
    have h1 := hb1.size
    have h2 := hb2.size
    rw [World.size_alloc] at h1
    omega
  have ht : TB w.heap.size w2.heap.size br bk er ek tr tk (((w2.alloc (.cells #[.int .i64 er, .int .i64 ek] 49)).alloc (.cells #[.int .i64 tr, .int .i64 tk] 49)).alloc (.cells #[.int .i64 2, .int .i64 tk, .int .i64 tr, .int .i64 tk, .int .i64 0, .int .i64 0] 56)) := by
    have h0 : Blk (w.alloc (.cells #[.int .i64 br, .int .i64 bk] 49)) w.heap.size #[.int .i64 br, .int .i64 bk] 49 := heap_alloc_new w _
    have h1 : Blk (w2.alloc (.cells #[.int .i64 er, .int .i64 ek] 49)) w2.heap.size #[.int .i64 er, .int .i64 ek] 49 := heap_alloc_new w2 _
    have h2 := heap_alloc_new (w2.alloc (.cells #[.int .i64 er, .int .i64 ek] 49)) (.cells #[.int .i64 tr, .int .i64 tk] 49)
    have h3 := heap_alloc_new ((w2.alloc (.cells #[.int .i64 er, .int .i64 ek] 49)).alloc (.cells #[.int .i64 tr, .int .i64 tk] 49)) (.cells #[.int .i64 2, .int .i64 tk, .int .i64 tr, .int .i64 tk, .int .i64 0, .int .i64 0] 56)
    simp only [World.size_alloc] at h2 h3
    exact ⟨(((h0.up hb1).up hb2).allc _).allc _ |>.allc _, (h1.allc _).allc _, Blk.allc h2 _, h3⟩
  have hbW : Below w.heap.size w (((w2.alloc (.cells #[.int .i64 er, .int .i64 ek] 49)).alloc (.cells #[.int .i64 tr, .int .i64 tk] 49)).alloc (.cells #[.int .i64 2, .int .i64 tk, .int .i64 tr, .int .i64 tk, .int .i64 0, .int .i64 0] 56)) := bal (bal (bal hbw (Nat.le_refl _) _) (Nat.le_refl _) _) (Nat.le_refl _) _
  generalize (((w2.alloc (.cells #[.int .i64 er, .int .i64 ek] 49)).alloc (.cells #[.int .i64 tr, .int .i64 tk] 49)).alloc (.cells #[.int .i64 2, .int .i64 tk, .int .i64 tr, .int .i64 tk, .int .i64 0, .int .i64 0] 56)) = W at *
  obtain ⟨q, hq⟩ : ∃ q, q = w2.heap.size := ⟨_, rfl⟩
  rw [← hq] at ht hz ⊢
  have HTB : Hid _ := ht
  have HMM : Hid _ := HM.out.more hbW
  have HCH : Hid (Chg (mown mb cb) w W) := Chg.ofBelow _ hbW
  have hc0 := HMM.out.c0
  obtain ⟨⟨p0, p1⟩, ⟨p2, p3⟩, ⟨p4, p5⟩, p6, p7, p8, p9, p10, p11⟩ := ht.cells
  clear hbw ht hbW hb1 hb2 hq HO HT HM
  go_upto_region 6 with (first
    | (go_at_call 34; refine Calls.mono (isNone_b _ _ _) ?_; rintro e w3 ⟨rfl, hb3⟩; have HTB : Hid _ := HTB.out.up hb3; have HMM : Hid _ := HMM.out.more hb3; have HCH : Hid (Chg (mown mb cb) w w3) := HCH.out.trans (Chg.ofBelow (fun _ => False) hb3) (fun _ _ e => e.elim); obtain ⟨⟨p0, p1⟩, ⟨p2, p3⟩, ⟨p4, p5⟩, p6, p7, p8, p9, p10, p11⟩ := HTB.out.cells; have hc0 := HMM.out.c0)
    | (go_at_call 65; refine Calls.mono (endOwn_any _ HMM.out (by omega)) ?_; rintro e w4 ⟨rfl, hm4, hc4⟩; have HTB : Hid _ := HTB.out.keep hc4 (by omega) (by omega) (by omega) (by omega); have HMM : Hid (MM L mb cb (endX x) [] w4) := hm4; have HCH : Hid (Chg (mown mb cb) w w4) := HCH.out.trans hc4 (fun j _ e => .inl e); obtain ⟨⟨p0, p1⟩, ⟨p2, p3⟩, ⟨p4, p5⟩, p6, p7, p8, p9, p10, p11⟩ := HTB.out.cells; have hc0 : w4.cell? ⟨mb, 0, none⟩ = some (.int .i64 (x.me : Int)) := HMM.out.c0)
    | (go_at_call 32; refine Calls.mono (ask_any (⟨3, -1, ⟨er, ek⟩, ⟨tr, tk⟩⟩ : Ac) _ (by first | exact HMM.out | exact HMM.out.drewN _ | exact HMM.out.more (Below.refl _ _).drew) (by simp)) ?_; rintro e w5 ⟨rfl, hm5, hc5⟩; have HTB : Hid _ := HTB.out.keep hc5 (by rintro (e | e) <;> omega) (by rintro (e | e) <;> omega) (by rintro (e | e) <;> omega) (by rintro (e | e) <;> omega); have HMM : Hid _ := hm5; have HCH : Hid (Chg (mown mb cb) w w5) := HCH.out.trans hc5 (fun j _ e => e); obtain ⟨⟨p0, p1⟩, ⟨p2, p3⟩, ⟨p4, p5⟩, p6, p7, p8, p9, p10, p11⟩ := HTB.out.cells; have hc0 : w5.cell? ⟨mb, 0, none⟩ = some (.int .i64 (x.me : Int)) := HMM.out.c0)
    | fail)
  have HTD : Hid _ := HTB.out.up (W' := w5.drew) ((Below.refl _ _).drew)
  have HMD : Hid _ := HMM.out.more (w' := w5.drew) ((Below.refl _ _).drew)
  have HCD : Hid (Chg (mown mb cb) w w5.drew) := HCH.out.trans (Chg.ofBelow (fun _ => False) ((Below.refl _ _).drew)) (fun _ _ e => e.elim)
  go_region_with (go_at_call 32; refine Calls.mono (ask_any (⟨5, x.me, ⟨er, ek⟩, e0⟩ : Ac) _ HMD.out (by simp)) ?_; rintro e w5 ⟨rfl, hm5, hc5⟩; have HTB : Hid _ := HTD.out.keep hc5 (by rintro (e | e) <;> omega) (by rintro (e | e) <;> omega) (by rintro (e | e) <;> omega) (by rintro (e | e) <;> omega); have HMM : Hid _ := hm5; have HCH : Hid (Chg (mown mb cb) w w5) := HCD.out.trans hc5 (fun j _ e => e); obtain ⟨⟨p0, p1⟩, ⟨p2, p3⟩, ⟨p4, p5⟩, p6, p7, p8, p9, p10, p11⟩ := HTB.out.cells; have hc0 : w5.cell? ⟨mb, 0, none⟩ = some (.int .i64 (x.me : Int)) := HMM.out.c0)
  all_goals
    go_wp2_with (first
      | (go_at_call 32; refine Calls.mono (ask_any (⟨2, tk, ⟨tr, tk⟩, e0⟩ : Ac) _ (by first | exact HMM.out | exact HMM.out.drewN _ | exact HMM.out.more (Below.refl _ _).drew) (by simp)) ?_; rintro e w5 ⟨rfl, hm5, hc5⟩; have HTB : Hid _ := HTB.out.keep hc5 (by rintro (e | e) <;> omega) (by rintro (e | e) <;> omega) (by rintro (e | e) <;> omega) (by rintro (e | e) <;> omega); have HMM : Hid _ := hm5; have HCH : Hid (Chg (mown mb cb) w w5) := HCH.out.trans hc5 (fun j _ e => e); obtain ⟨⟨p0, p1⟩, ⟨p2, p3⟩, ⟨p4, p5⟩, p6, p7, p8, p9, p10, p11⟩ := HTB.out.cells; have hc0 : w5.cell? ⟨mb, 0, none⟩ = some (.int .i64 (x.me : Int)) := HMM.out.c0)
      | (go_at_call 33; refine Calls.mono (asked_any _ HMM.out (by simp)) ?_; rintro e w6 ⟨v6, rfl, ho6, hm6, hc6⟩)
      | fail)
  all_goals
    go_ret
    have hsz := HCH.out.size
    exact ⟨v6, rfl, ownsRow_mono ho6 hsz, hm6, HCH.out.trans hc6 (fun j _ e => e)⟩
set_option maxRecDepth 100000 in
set_option maxHeartbeats 6400000 in
theorem turn_c4 {L mb cb : Nat} {x : EV} (br bk er ek tr tk : Int) (w : World) (hM : MM L mb cb x [] w) (hx : x.Nm) (hE : liveE x x.me = ⟨er, ek⟩) (hT : tgtE x x.n = ⟨tr, tk⟩) (d1 : isE0 er ek = true) (d2 : sameE tr tk er ek = false) (d3 : isE0 tr tk = false) (d4 : sameE tr tk br bk = true) : Calls Try.prog 63 #[.pointer (some ⟨mb, 0, none⟩), .agg #[.int .i64 br, .int .i64 bk]] w fun e w' => ∃ v, e = .returned v ∧ w'.ownsRow w.heap.size 56 6 v ([] : List Ac).length (flatA ([] : List Ac)) ∧ MM L mb cb x [] w' ∧ Chg (mown mb cb) w w' := by
  obtain ⟨⟨hn1, hn2⟩, hme, hhd⟩ := hx
  have HM : Hid _ := hM
  have hm := hM.b.lt
  have hcb := hM.clt
  have HO : Hid (∀ W, Below w.heap.size w W → Calls Try.prog 22 #[.pointer (some ⟨mb, 0, none⟩)] W fun e w' => e = .returned (epV ⟨er, ek⟩) ∧ Below W.heap.size W w') := fun W hW => by rw [← hE]; exact own_any W (hM.more hW) (by omega)
  have HT : Hid (∀ W, Below w.heap.size w W → Calls Try.prog 35 #[.pointer (some ⟨mb, 0, none⟩)] W fun e w' => e = .returned (epV ⟨tr, tk⟩) ∧ Below W.heap.size W w') := fun W hW => by rw [← hT]; exact target_any W (hM.more hW) hn2
  have HN1 := neq49 tr tk er ek
  have HN2 := neq49 tr tk br bk
  clear hE hT hM hhd
  unfold epV at *
  go_enter Try.func63, Try.ntmps63
  go_upto_region 3 with (first
    | (go_at_call 22; refine Calls.mono (HO.out _ ((Below.refl _ _).alloc (Nat.le_refl _) _)) ?_; rintro e w1 ⟨rfl, hb1⟩)
    | (go_at_call 35; refine Calls.mono (HT.out _ (bgo ((Below.refl _ _).alloc (Nat.le_refl _) _) hb1 (Nat.le_refl _))) ?_; rintro e w2 ⟨rfl, hb2⟩)
    | fail)
  have hbw : Below w.heap.size w w2 := bgo (bgo ((Below.refl _ _).alloc (Nat.le_refl _) _) hb1 (Nat.le_refl _)) hb2 (Nat.le_refl _)
  have hz : w.heap.size < w2.heap.size := by
    have h1 := hb1.size
    have h2 := hb2.size
    rw [World.size_alloc] at h1
    omega
  have ht : TB w.heap.size w2.heap.size br bk er ek tr tk (((w2.alloc (.cells #[.int .i64 er, .int .i64 ek] 49)).alloc (.cells #[.int .i64 tr, .int .i64 tk] 49)).alloc (.cells #[.int .i64 2, .int .i64 tk, .int .i64 tr, .int .i64 tk, .int .i64 0, .int .i64 0] 56)) := by
    have h0 : Blk (w.alloc (.cells #[.int .i64 br, .int .i64 bk] 49)) w.heap.size #[.int .i64 br, .int .i64 bk] 49 := heap_alloc_new w _
    have h1 : Blk (w2.alloc (.cells #[.int .i64 er, .int .i64 ek] 49)) w2.heap.size #[.int .i64 er, .int .i64 ek] 49 := heap_alloc_new w2 _
    have h2 := heap_alloc_new (w2.alloc (.cells #[.int .i64 er, .int .i64 ek] 49)) (.cells #[.int .i64 tr, .int .i64 tk] 49)
    have h3 := heap_alloc_new ((w2.alloc (.cells #[.int .i64 er, .int .i64 ek] 49)).alloc (.cells #[.int .i64 tr, .int .i64 tk] 49)) (.cells #[.int .i64 2, .int .i64 tk, .int .i64 tr, .int .i64 tk, .int .i64 0, .int .i64 0] 56)
    simp only [World.size_alloc] at h2 h3
    exact ⟨(((h0.up hb1).up hb2).allc _).allc _ |>.allc _, (h1.allc _).allc _, Blk.allc h2 _, h3⟩
  have hbW : Below w.heap.size w (((w2.alloc (.cells #[.int .i64 er, .int .i64 ek] 49)).alloc (.cells #[.int .i64 tr, .int .i64 tk] 49)).alloc (.cells #[.int .i64 2, .int .i64 tk, .int .i64 tr, .int .i64 tk, .int .i64 0, .int .i64 0] 56)) := bal (bal (bal hbw (Nat.le_refl _) _) (Nat.le_refl _) _) (Nat.le_refl _) _
  generalize (((w2.alloc (.cells #[.int .i64 er, .int .i64 ek] 49)).alloc (.cells #[.int .i64 tr, .int .i64 tk] 49)).alloc (.cells #[.int .i64 2, .int .i64 tk, .int .i64 tr, .int .i64 tk, .int .i64 0, .int .i64 0] 56)) = W at *
  obtain ⟨q, hq⟩ : ∃ q, q = w2.heap.size := ⟨_, rfl⟩
  rw [← hq] at ht hz ⊢
  have HTB : Hid _ := ht
  have HMM : Hid _ := HM.out.more hbW
  have HCH : Hid (Chg (mown mb cb) w W) := Chg.ofBelow _ hbW
  have hc0 := HMM.out.c0
  obtain ⟨⟨p0, p1⟩, ⟨p2, p3⟩, ⟨p4, p5⟩, p6, p7, p8, p9, p10, p11⟩ := ht.cells
  clear hbw ht hbW hb1 hb2 hq HO HT HM
  go_wp2_with (first
    | (go_at_call 34; refine Calls.mono (isNone_b _ _ _) ?_; rintro e w3 ⟨rfl, hb3⟩; have HTB : Hid _ := HTB.out.up hb3; have HMM : Hid _ := HMM.out.more hb3; have HCH : Hid (Chg (mown mb cb) w w3) := HCH.out.trans (Chg.ofBelow (fun _ => False) hb3) (fun _ _ e => e.elim); obtain ⟨⟨p0, p1⟩, ⟨p2, p3⟩, ⟨p4, p5⟩, p6, p7, p8, p9, p10, p11⟩ := HTB.out.cells; have hc0 := HMM.out.c0)
    | (go_at_call 33; refine Calls.mono (asked_any _ HMM.out (by simp)) ?_; rintro e w6 ⟨v6, rfl, ho6, hm6, hc6⟩)
    | fail)
  all_goals
    go_ret
    have hsz := HCH.out.size
    exact ⟨v6, rfl, ownsRow_mono ho6 hsz, hm6, HCH.out.trans hc6 (fun j _ e => e)⟩
set_option maxRecDepth 100000 in
set_option maxHeartbeats 6400000 in
theorem turn_c5 {L mb cb : Nat} {x : EV} (br bk er ek tr tk : Int) (w : World) (hM : MM L mb cb x [] w) (hx : x.Nm) (hE : liveE x x.me = ⟨er, ek⟩) (hT : tgtE x x.n = ⟨tr, tk⟩) (d1 : isE0 er ek = true) (d2 : sameE tr tk er ek = false) (d3 : isE0 tr tk = false) (d4 : sameE tr tk br bk = false) : Calls Try.prog 63 #[.pointer (some ⟨mb, 0, none⟩), .agg #[.int .i64 br, .int .i64 bk]] w fun e w' => ∃ v, e = .returned v ∧ w'.ownsRow w.heap.size 56 6 v [(⟨2, tk, ⟨tr, tk⟩, e0⟩ : Ac)].length (flatA [(⟨2, tk, ⟨tr, tk⟩, e0⟩ : Ac)]) ∧ MM L mb cb x [] w' ∧ Chg (mown mb cb) w w' := by
  obtain ⟨⟨hn1, hn2⟩, hme, hhd⟩ := hx
  have HM : Hid _ := hM
  have hm := hM.b.lt
  have hcb := hM.clt
  have HO : Hid (∀ W, Below w.heap.size w W → Calls Try.prog 22 #[.pointer (some ⟨mb, 0, none⟩)] W fun e w' => e = .returned (epV ⟨er, ek⟩) ∧ Below W.heap.size W w') := fun W hW => by rw [← hE]; exact own_any W (hM.more hW) (by omega)
  have HT : Hid (∀ W, Below w.heap.size w W → Calls Try.prog 35 #[.pointer (some ⟨mb, 0, none⟩)] W fun e w' => e = .returned (epV ⟨tr, tk⟩) ∧ Below W.heap.size W w') := fun W hW => by rw [← hT]; exact target_any W (hM.more hW) hn2
  have HN1 := neq49 tr tk er ek
  have HN2 := neq49 tr tk br bk
  clear hE hT hM hhd
  unfold epV at *
  go_enter Try.func63, Try.ntmps63
  go_upto_region 3 with (first
    | (go_at_call 22; refine Calls.mono (HO.out _ ((Below.refl _ _).alloc (Nat.le_refl _) _)) ?_; rintro e w1 ⟨rfl, hb1⟩)
    | (go_at_call 35; refine Calls.mono (HT.out _ (bgo ((Below.refl _ _).alloc (Nat.le_refl _) _) hb1 (Nat.le_refl _))) ?_; rintro e w2 ⟨rfl, hb2⟩)
    | fail)
  have hbw : Below w.heap.size w w2 := bgo (bgo ((Below.refl _ _).alloc (Nat.le_refl _) _) hb1 (Nat.le_refl _)) hb2 (Nat.le_refl _)
  have hz : w.heap.size < w2.heap.size := by
    have h1 := hb1.size
    have h2 := hb2.size
    rw [World.size_alloc] at h1
    omega
  have ht : TB w.heap.size w2.heap.size br bk er ek tr tk (((w2.alloc (.cells #[.int .i64 er, .int .i64 ek] 49)).alloc (.cells #[.int .i64 tr, .int .i64 tk] 49)).alloc (.cells #[.int .i64 2, .int .i64 tk, .int .i64 tr, .int .i64 tk, .int .i64 0, .int .i64 0] 56)) := by
    have h0 : Blk (w.alloc (.cells #[.int .i64 br, .int .i64 bk] 49)) w.heap.size #[.int .i64 br, .int .i64 bk] 49 := heap_alloc_new w _
    have h1 : Blk (w2.alloc (.cells #[.int .i64 er, .int .i64 ek] 49)) w2.heap.size #[.int .i64 er, .int .i64 ek] 49 := heap_alloc_new w2 _
    have h2 := heap_alloc_new (w2.alloc (.cells #[.int .i64 er, .int .i64 ek] 49)) (.cells #[.int .i64 tr, .int .i64 tk] 49)
    have h3 := heap_alloc_new ((w2.alloc (.cells #[.int .i64 er, .int .i64 ek] 49)).alloc (.cells #[.int .i64 tr, .int .i64 tk] 49)) (.cells #[.int .i64 2, .int .i64 tk, .int .i64 tr, .int .i64 tk, .int .i64 0, .int .i64 0] 56)
    simp only [World.size_alloc] at h2 h3
    exact ⟨(((h0.up hb1).up hb2).allc _).allc _ |>.allc _, (h1.allc _).allc _, Blk.allc h2 _, h3⟩
  have hbW : Below w.heap.size w (((w2.alloc (.cells #[.int .i64 er, .int .i64 ek] 49)).alloc (.cells #[.int .i64 tr, .int .i64 tk] 49)).alloc (.cells #[.int .i64 2, .int .i64 tk, .int .i64 tr, .int .i64 tk, .int .i64 0, .int .i64 0] 56)) := bal (bal (bal hbw (Nat.le_refl _) _) (Nat.le_refl _) _) (Nat.le_refl _) _
  generalize (((w2.alloc (.cells #[.int .i64 er, .int .i64 ek] 49)).alloc (.cells #[.int .i64 tr, .int .i64 tk] 49)).alloc (.cells #[.int .i64 2, .int .i64 tk, .int .i64 tr, .int .i64 tk, .int .i64 0, .int .i64 0] 56)) = W at *
  obtain ⟨q, hq⟩ : ∃ q, q = w2.heap.size := ⟨_, rfl⟩
  rw [← hq] at ht hz ⊢
  have HTB : Hid _ := ht
  have HMM : Hid _ := HM.out.more hbW
  have HCH : Hid (Chg (mown mb cb) w W) := Chg.ofBelow _ hbW
  have hc0 := HMM.out.c0
  obtain ⟨⟨p0, p1⟩, ⟨p2, p3⟩, ⟨p4, p5⟩, p6, p7, p8, p9, p10, p11⟩ := ht.cells
  clear hbw ht hbW hb1 hb2 hq HO HT HM
  go_wp2_with (first
    | (go_at_call 34; refine Calls.mono (isNone_b _ _ _) ?_; rintro e w3 ⟨rfl, hb3⟩; have HTB : Hid _ := HTB.out.up hb3; have HMM : Hid _ := HMM.out.more hb3; have HCH : Hid (Chg (mown mb cb) w w3) := HCH.out.trans (Chg.ofBelow (fun _ => False) hb3) (fun _ _ e => e.elim); obtain ⟨⟨p0, p1⟩, ⟨p2, p3⟩, ⟨p4, p5⟩, p6, p7, p8, p9, p10, p11⟩ := HTB.out.cells; have hc0 := HMM.out.c0)
    | (go_at_call 32; refine Calls.mono (ask_any (⟨2, tk, ⟨tr, tk⟩, e0⟩ : Ac) _ (by first | exact HMM.out | exact HMM.out.drewN _ | exact HMM.out.more (Below.refl _ _).drew) (by simp)) ?_; rintro e w5 ⟨rfl, hm5, hc5⟩; have HTB : Hid _ := HTB.out.keep hc5 (by rintro (e | e) <;> omega) (by rintro (e | e) <;> omega) (by rintro (e | e) <;> omega) (by rintro (e | e) <;> omega); have HMM : Hid _ := hm5; have HCH : Hid (Chg (mown mb cb) w w5) := HCH.out.trans hc5 (fun j _ e => e); obtain ⟨⟨p0, p1⟩, ⟨p2, p3⟩, ⟨p4, p5⟩, p6, p7, p8, p9, p10, p11⟩ := HTB.out.cells; have hc0 : w5.cell? ⟨mb, 0, none⟩ = some (.int .i64 (x.me : Int)) := HMM.out.c0)
    | (go_at_call 33; refine Calls.mono (asked_any _ HMM.out (by simp)) ?_; rintro e w6 ⟨v6, rfl, ho6, hm6, hc6⟩)
    | fail)
  all_goals
    go_ret
    have hsz := HCH.out.size
    exact ⟨v6, rfl, ownsRow_mono ho6 hsz, hm6, HCH.out.trans hc6 (fun j _ e => e)⟩
set_option maxRecDepth 100000 in
set_option maxHeartbeats 6400000 in
theorem turn_c6 {L mb cb : Nat} {x : EV} (br bk er ek tr tk : Int) (w : World) (hM : MM L mb cb x [] w) (hx : x.Nm) (hE : liveE x x.me = ⟨er, ek⟩) (hT : tgtE x x.n = ⟨tr, tk⟩) (d1 : isE0 er ek = false) (d2 : sameE tr tk er ek = true) (d3 : isE0 tr tk = false) : Calls Try.prog 63 #[.pointer (some ⟨mb, 0, none⟩), .agg #[.int .i64 br, .int .i64 bk]] w fun e w' => ∃ v, e = .returned v ∧ w'.ownsRow w.heap.size 56 6 v ([] : List Ac).length (flatA ([] : List Ac)) ∧ MM L mb cb x [] w' ∧ Chg (mown mb cb) w w' := by
  obtain ⟨⟨hn1, hn2⟩, hme, hhd⟩ := hx
  have HM : Hid _ := hM
  have hm := hM.b.lt
  have hcb := hM.clt
  have HO : Hid (∀ W, Below w.heap.size w W → Calls Try.prog 22 #[.pointer (some ⟨mb, 0, none⟩)] W fun e w' => e = .returned (epV ⟨er, ek⟩) ∧ Below W.heap.size W w') := fun W hW => by rw [← hE]; exact own_any W (hM.more hW) (by omega)
  have HT : Hid (∀ W, Below w.heap.size w W → Calls Try.prog 35 #[.pointer (some ⟨mb, 0, none⟩)] W fun e w' => e = .returned (epV ⟨tr, tk⟩) ∧ Below W.heap.size W w') := fun W hW => by rw [← hT]; exact target_any W (hM.more hW) hn2
  have HN1 := neq49 tr tk er ek
  have HN2 := neq49 tr tk br bk
  clear hE hT hM hhd
  unfold epV at *
  go_enter Try.func63, Try.ntmps63
  go_upto_region 3 with (first
    | (go_at_call 22; refine Calls.mono (HO.out _ ((Below.refl _ _).alloc (Nat.le_refl _) _)) ?_; rintro e w1 ⟨rfl, hb1⟩)
    | (go_at_call 35; refine Calls.mono (HT.out _ (bgo ((Below.refl _ _).alloc (Nat.le_refl _) _) hb1 (Nat.le_refl _))) ?_; rintro e w2 ⟨rfl, hb2⟩)
    | fail)
  have hbw : Below w.heap.size w w2 := bgo (bgo ((Below.refl _ _).alloc (Nat.le_refl _) _) hb1 (Nat.le_refl _)) hb2 (Nat.le_refl _)
  have hz : w.heap.size < w2.heap.size := by
    have h1 := hb1.size
    have h2 := hb2.size
    rw [World.size_alloc] at h1
    omega
  have ht : TB w.heap.size w2.heap.size br bk er ek tr tk (((w2.alloc (.cells #[.int .i64 er, .int .i64 ek] 49)).alloc (.cells #[.int .i64 tr, .int .i64 tk] 49)).alloc (.cells #[.int .i64 2, .int .i64 tk, .int .i64 tr, .int .i64 tk, .int .i64 0, .int .i64 0] 56)) := by
    have h0 : Blk (w.alloc (.cells #[.int .i64 br, .int .i64 bk] 49)) w.heap.size #[.int .i64 br, .int .i64 bk] 49 := heap_alloc_new w _
    have h1 : Blk (w2.alloc (.cells #[.int .i64 er, .int .i64 ek] 49)) w2.heap.size #[.int .i64 er, .int .i64 ek] 49 := heap_alloc_new w2 _
    have h2 := heap_alloc_new (w2.alloc (.cells #[.int .i64 er, .int .i64 ek] 49)) (.cells #[.int .i64 tr, .int .i64 tk] 49)
    have h3 := heap_alloc_new ((w2.alloc (.cells #[.int .i64 er, .int .i64 ek] 49)).alloc (.cells #[.int .i64 tr, .int .i64 tk] 49)) (.cells #[.int .i64 2, .int .i64 tk, .int .i64 tr, .int .i64 tk, .int .i64 0, .int .i64 0] 56)
    simp only [World.size_alloc] at h2 h3
    exact ⟨(((h0.up hb1).up hb2).allc _).allc _ |>.allc _, (h1.allc _).allc _, Blk.allc h2 _, h3⟩
  have hbW : Below w.heap.size w (((w2.alloc (.cells #[.int .i64 er, .int .i64 ek] 49)).alloc (.cells #[.int .i64 tr, .int .i64 tk] 49)).alloc (.cells #[.int .i64 2, .int .i64 tk, .int .i64 tr, .int .i64 tk, .int .i64 0, .int .i64 0] 56)) := bal (bal (bal hbw (Nat.le_refl _) _) (Nat.le_refl _) _) (Nat.le_refl _) _
  generalize (((w2.alloc (.cells #[.int .i64 er, .int .i64 ek] 49)).alloc (.cells #[.int .i64 tr, .int .i64 tk] 49)).alloc (.cells #[.int .i64 2, .int .i64 tk, .int .i64 tr, .int .i64 tk, .int .i64 0, .int .i64 0] 56)) = W at *
  obtain ⟨q, hq⟩ : ∃ q, q = w2.heap.size := ⟨_, rfl⟩
  rw [← hq] at ht hz ⊢
  have HTB : Hid _ := ht
  have HMM : Hid _ := HM.out.more hbW
  have HCH : Hid (Chg (mown mb cb) w W) := Chg.ofBelow _ hbW
  have hc0 := HMM.out.c0
  obtain ⟨⟨p0, p1⟩, ⟨p2, p3⟩, ⟨p4, p5⟩, p6, p7, p8, p9, p10, p11⟩ := ht.cells
  clear hbw ht hbW hb1 hb2 hq HO HT HM
  go_wp2_with (first
    | (go_at_call 34; refine Calls.mono (isNone_b _ _ _) ?_; rintro e w3 ⟨rfl, hb3⟩; have HTB : Hid _ := HTB.out.up hb3; have HMM : Hid _ := HMM.out.more hb3; have HCH : Hid (Chg (mown mb cb) w w3) := HCH.out.trans (Chg.ofBelow (fun _ => False) hb3) (fun _ _ e => e.elim); obtain ⟨⟨p0, p1⟩, ⟨p2, p3⟩, ⟨p4, p5⟩, p6, p7, p8, p9, p10, p11⟩ := HTB.out.cells; have hc0 := HMM.out.c0)
    | (go_at_call 33; refine Calls.mono (asked_any _ HMM.out (by simp)) ?_; rintro e w6 ⟨v6, rfl, ho6, hm6, hc6⟩)
    | fail)
  all_goals
    go_ret
    have hsz := HCH.out.size
    exact ⟨v6, rfl, ownsRow_mono ho6 hsz, hm6, HCH.out.trans hc6 (fun j _ e => e)⟩
set_option maxRecDepth 100000 in
set_option maxHeartbeats 6400000 in
theorem turn_c7 {L mb cb : Nat} {x : EV} (br bk er ek tr tk : Int) (w : World) (hM : MM L mb cb x [] w) (hx : x.Nm) (hE : liveE x x.me = ⟨er, ek⟩) (hT : tgtE x x.n = ⟨tr, tk⟩) (d1 : isE0 er ek = true) (d2 : sameE tr tk er ek = true) (d3 : isE0 tr tk = true) (d5 : isE0 br bk = true) : Calls Try.prog 63 #[.pointer (some ⟨mb, 0, none⟩), .agg #[.int .i64 br, .int .i64 bk]] w fun e w' => ∃ v, e = .returned v ∧ w'.ownsRow w.heap.size 56 6 v ([] : List Ac).length (flatA ([] : List Ac)) ∧ MM L mb cb x [] w' ∧ Chg (mown mb cb) w w' := by
  obtain ⟨⟨hn1, hn2⟩, hme, hhd⟩ := hx
  have HM : Hid _ := hM
  have hm := hM.b.lt
  have hcb := hM.clt
  have HO : Hid (∀ W, Below w.heap.size w W → Calls Try.prog 22 #[.pointer (some ⟨mb, 0, none⟩)] W fun e w' => e = .returned (epV ⟨er, ek⟩) ∧ Below W.heap.size W w') := fun W hW => by rw [← hE]; exact own_any W (hM.more hW) (by omega)
  have HT : Hid (∀ W, Below w.heap.size w W → Calls Try.prog 35 #[.pointer (some ⟨mb, 0, none⟩)] W fun e w' => e = .returned (epV ⟨tr, tk⟩) ∧ Below W.heap.size W w') := fun W hW => by rw [← hT]; exact target_any W (hM.more hW) hn2
  have HN1 := neq49 tr tk er ek
  have HN2 := neq49 tr tk br bk
  clear hE hT hM hhd
  unfold epV at *
  go_enter Try.func63, Try.ntmps63
  go_upto_region 3 with (first
    | (go_at_call 22; refine Calls.mono (HO.out _ ((Below.refl _ _).alloc (Nat.le_refl _) _)) ?_; rintro e w1 ⟨rfl, hb1⟩)
    | (go_at_call 35; refine Calls.mono (HT.out _ (bgo ((Below.refl _ _).alloc (Nat.le_refl _) _) hb1 (Nat.le_refl _))) ?_; rintro e w2 ⟨rfl, hb2⟩)
    | fail)
  have hbw : Below w.heap.size w w2 := bgo (bgo ((Below.refl _ _).alloc (Nat.le_refl _) _) hb1 (Nat.le_refl _)) hb2 (Nat.le_refl _)
  have hz : w.heap.size < w2.heap.size := by
    have h1 := hb1.size
    have h2 := hb2.size
    rw [World.size_alloc] at h1
    omega
  have ht : TB w.heap.size w2.heap.size br bk er ek tr tk (((w2.alloc (.cells #[.int .i64 er, .int .i64 ek] 49)).alloc (.cells #[.int .i64 tr, .int .i64 tk] 49)).alloc (.cells #[.int .i64 2, .int .i64 tk, .int .i64 tr, .int .i64 tk, .int .i64 0, .int .i64 0] 56)) := by
    have h0 : Blk (w.alloc (.cells #[.int .i64 br, .int .i64 bk] 49)) w.heap.size #[.int .i64 br, .int .i64 bk] 49 := heap_alloc_new w _
    have h1 : Blk (w2.alloc (.cells #[.int .i64 er, .int .i64 ek] 49)) w2.heap.size #[.int .i64 er, .int .i64 ek] 49 := heap_alloc_new w2 _
    have h2 := heap_alloc_new (w2.alloc (.cells #[.int .i64 er, .int .i64 ek] 49)) (.cells #[.int .i64 tr, .int .i64 tk] 49)
    have h3 := heap_alloc_new ((w2.alloc (.cells #[.int .i64 er, .int .i64 ek] 49)).alloc (.cells #[.int .i64 tr, .int .i64 tk] 49)) (.cells #[.int .i64 2, .int .i64 tk, .int .i64 tr, .int .i64 tk, .int .i64 0, .int .i64 0] 56)
    simp only [World.size_alloc] at h2 h3
    exact ⟨(((h0.up hb1).up hb2).allc _).allc _ |>.allc _, (h1.allc _).allc _, Blk.allc h2 _, h3⟩
  have hbW : Below w.heap.size w (((w2.alloc (.cells #[.int .i64 er, .int .i64 ek] 49)).alloc (.cells #[.int .i64 tr, .int .i64 tk] 49)).alloc (.cells #[.int .i64 2, .int .i64 tk, .int .i64 tr, .int .i64 tk, .int .i64 0, .int .i64 0] 56)) := bal (bal (bal hbw (Nat.le_refl _) _) (Nat.le_refl _) _) (Nat.le_refl _) _
  generalize (((w2.alloc (.cells #[.int .i64 er, .int .i64 ek] 49)).alloc (.cells #[.int .i64 tr, .int .i64 tk] 49)).alloc (.cells #[.int .i64 2, .int .i64 tk, .int .i64 tr, .int .i64 tk, .int .i64 0, .int .i64 0] 56)) = W at *
  obtain ⟨q, hq⟩ : ∃ q, q = w2.heap.size := ⟨_, rfl⟩
  rw [← hq] at ht hz ⊢
  have HTB : Hid _ := ht
  have HMM : Hid _ := HM.out.more hbW
  have HCH : Hid (Chg (mown mb cb) w W) := Chg.ofBelow _ hbW
  have hc0 := HMM.out.c0
  obtain ⟨⟨p0, p1⟩, ⟨p2, p3⟩, ⟨p4, p5⟩, p6, p7, p8, p9, p10, p11⟩ := ht.cells
  clear hbw ht hbW hb1 hb2 hq HO HT HM
  go_wp2_with (first
    | (go_at_call 34; refine Calls.mono (isNone_b _ _ _) ?_; rintro e w3 ⟨rfl, hb3⟩; have HTB : Hid _ := HTB.out.up hb3; have HMM : Hid _ := HMM.out.more hb3; have HCH : Hid (Chg (mown mb cb) w w3) := HCH.out.trans (Chg.ofBelow (fun _ => False) hb3) (fun _ _ e => e.elim); obtain ⟨⟨p0, p1⟩, ⟨p2, p3⟩, ⟨p4, p5⟩, p6, p7, p8, p9, p10, p11⟩ := HTB.out.cells; have hc0 := HMM.out.c0)
    | (go_at_call 33; refine Calls.mono (asked_any _ HMM.out (by simp)) ?_; rintro e w6 ⟨v6, rfl, ho6, hm6, hc6⟩)
    | fail)
  all_goals
    go_ret
    have hsz := HCH.out.size
    exact ⟨v6, rfl, ownsRow_mono ho6 hsz, hm6, HCH.out.trans hc6 (fun j _ e => e)⟩
set_option maxRecDepth 100000 in
set_option maxHeartbeats 6400000 in
theorem turn_c8 {L mb cb : Nat} {x : EV} (br bk er ek tr tk : Int) (w : World) (hM : MM L mb cb x [] w) (hx : x.Nm) (hE : liveE x x.me = ⟨er, ek⟩) (hT : tgtE x x.n = ⟨tr, tk⟩) (d1 : isE0 er ek = true) (d2 : sameE tr tk er ek = true) (d3 : isE0 tr tk = true) (d5 : isE0 br bk = false) : Calls Try.prog 63 #[.pointer (some ⟨mb, 0, none⟩), .agg #[.int .i64 br, .int .i64 bk]] w fun e w' => ∃ v, e = .returned v ∧ w'.ownsRow w.heap.size 56 6 v [(⟨6, x.me, e0, e0⟩ : Ac)].length (flatA [(⟨6, x.me, e0, e0⟩ : Ac)]) ∧ MM L mb cb x [] w' ∧ Chg (mown mb cb) w w' := by
  obtain ⟨⟨hn1, hn2⟩, hme, hhd⟩ := hx
  have HM : Hid _ := hM
  have hm := hM.b.lt
  have hcb := hM.clt
  have HO : Hid (∀ W, Below w.heap.size w W → Calls Try.prog 22 #[.pointer (some ⟨mb, 0, none⟩)] W fun e w' => e = .returned (epV ⟨er, ek⟩) ∧ Below W.heap.size W w') := fun W hW => by rw [← hE]; exact own_any W (hM.more hW) (by omega)
  have HT : Hid (∀ W, Below w.heap.size w W → Calls Try.prog 35 #[.pointer (some ⟨mb, 0, none⟩)] W fun e w' => e = .returned (epV ⟨tr, tk⟩) ∧ Below W.heap.size W w') := fun W hW => by rw [← hT]; exact target_any W (hM.more hW) hn2
  have HN1 := neq49 tr tk er ek
  have HN2 := neq49 tr tk br bk
  clear hE hT hM hhd
  unfold epV at *
  go_enter Try.func63, Try.ntmps63
  go_upto_region 3 with (first
    | (go_at_call 22; refine Calls.mono (HO.out _ ((Below.refl _ _).alloc (Nat.le_refl _) _)) ?_; rintro e w1 ⟨rfl, hb1⟩)
    | (go_at_call 35; refine Calls.mono (HT.out _ (bgo ((Below.refl _ _).alloc (Nat.le_refl _) _) hb1 (Nat.le_refl _))) ?_; rintro e w2 ⟨rfl, hb2⟩)
    | fail)
  have hbw : Below w.heap.size w w2 := bgo (bgo ((Below.refl _ _).alloc (Nat.le_refl _) _) hb1 (Nat.le_refl _)) hb2 (Nat.le_refl _)
  have hz : w.heap.size < w2.heap.size := by
    have h1 := hb1.size
    have h2 := hb2.size
    rw [World.size_alloc] at h1
    omega
  have ht : TB w.heap.size w2.heap.size br bk er ek tr tk (((w2.alloc (.cells #[.int .i64 er, .int .i64 ek] 49)).alloc (.cells #[.int .i64 tr, .int .i64 tk] 49)).alloc (.cells #[.int .i64 2, .int .i64 tk, .int .i64 tr, .int .i64 tk, .int .i64 0, .int .i64 0] 56)) := by
    have h0 : Blk (w.alloc (.cells #[.int .i64 br, .int .i64 bk] 49)) w.heap.size #[.int .i64 br, .int .i64 bk] 49 := heap_alloc_new w _
    have h1 : Blk (w2.alloc (.cells #[.int .i64 er, .int .i64 ek] 49)) w2.heap.size #[.int .i64 er, .int .i64 ek] 49 := heap_alloc_new w2 _
    have h2 := heap_alloc_new (w2.alloc (.cells #[.int .i64 er, .int .i64 ek] 49)) (.cells #[.int .i64 tr, .int .i64 tk] 49)
    have h3 := heap_alloc_new ((w2.alloc (.cells #[.int .i64 er, .int .i64 ek] 49)).alloc (.cells #[.int .i64 tr, .int .i64 tk] 49)) (.cells #[.int .i64 2, .int .i64 tk, .int .i64 tr, .int .i64 tk, .int .i64 0, .int .i64 0] 56)
    simp only [World.size_alloc] at h2 h3
    exact ⟨(((h0.up hb1).up hb2).allc _).allc _ |>.allc _, (h1.allc _).allc _, Blk.allc h2 _, h3⟩
  have hbW : Below w.heap.size w (((w2.alloc (.cells #[.int .i64 er, .int .i64 ek] 49)).alloc (.cells #[.int .i64 tr, .int .i64 tk] 49)).alloc (.cells #[.int .i64 2, .int .i64 tk, .int .i64 tr, .int .i64 tk, .int .i64 0, .int .i64 0] 56)) := bal (bal (bal hbw (Nat.le_refl _) _) (Nat.le_refl _) _) (Nat.le_refl _) _
  generalize (((w2.alloc (.cells #[.int .i64 er, .int .i64 ek] 49)).alloc (.cells #[.int .i64 tr, .int .i64 tk] 49)).alloc (.cells #[.int .i64 2, .int .i64 tk, .int .i64 tr, .int .i64 tk, .int .i64 0, .int .i64 0] 56)) = W at *
  obtain ⟨q, hq⟩ : ∃ q, q = w2.heap.size := ⟨_, rfl⟩
  rw [← hq] at ht hz ⊢
  have HTB : Hid _ := ht
  have HMM : Hid _ := HM.out.more hbW
  have HCH : Hid (Chg (mown mb cb) w W) := Chg.ofBelow _ hbW
  have hc0 := HMM.out.c0
  obtain ⟨⟨p0, p1⟩, ⟨p2, p3⟩, ⟨p4, p5⟩, p6, p7, p8, p9, p10, p11⟩ := ht.cells
  clear hbw ht hbW hb1 hb2 hq HO HT HM
  go_wp2_with (first
    | (go_at_call 34; refine Calls.mono (isNone_b _ _ _) ?_; rintro e w3 ⟨rfl, hb3⟩; have HTB : Hid _ := HTB.out.up hb3; have HMM : Hid _ := HMM.out.more hb3; have HCH : Hid (Chg (mown mb cb) w w3) := HCH.out.trans (Chg.ofBelow (fun _ => False) hb3) (fun _ _ e => e.elim); obtain ⟨⟨p0, p1⟩, ⟨p2, p3⟩, ⟨p4, p5⟩, p6, p7, p8, p9, p10, p11⟩ := HTB.out.cells; have hc0 := HMM.out.c0)
    | (go_at_call 32; refine Calls.mono (ask_any (⟨6, x.me, e0, e0⟩ : Ac) _ (by first | exact HMM.out | exact HMM.out.drewN _ | exact HMM.out.more (Below.refl _ _).drew) (by simp)) ?_; rintro e w5 ⟨rfl, hm5, hc5⟩; have HTB : Hid _ := HTB.out.keep hc5 (by rintro (e | e) <;> omega) (by rintro (e | e) <;> omega) (by rintro (e | e) <;> omega) (by rintro (e | e) <;> omega); have HMM : Hid _ := hm5; have HCH : Hid (Chg (mown mb cb) w w5) := HCH.out.trans hc5 (fun j _ e => e); obtain ⟨⟨p0, p1⟩, ⟨p2, p3⟩, ⟨p4, p5⟩, p6, p7, p8, p9, p10, p11⟩ := HTB.out.cells; have hc0 : w5.cell? ⟨mb, 0, none⟩ = some (.int .i64 (x.me : Int)) := HMM.out.c0)
    | (go_at_call 33; refine Calls.mono (asked_any _ HMM.out (by simp)) ?_; rintro e w6 ⟨v6, rfl, ho6, hm6, hc6⟩)
    | fail)
  all_goals
    go_ret
    have hsz := HCH.out.size
    exact ⟨v6, rfl, ownsRow_mono ho6 hsz, hm6, HCH.out.trans hc6 (fun j _ e => e)⟩
set_option maxHeartbeats 1600000 in
theorem turn_any {L mb cb : Nat} {x : EV} (b : Ep) (w : World) (hM : MM L mb cb x [] w) (hx : x.Nm) : Calls Try.prog 63 #[.pointer (some ⟨mb, 0, none⟩), epV b] w fun e w' => ∃ v, e = .returned v ∧ w'.ownsRow w.heap.size 56 6 v (turnA x b).length (flatA (turnA x b)) ∧ MM L mb cb (turnX x b) [] w' ∧ Chg (mown mb cb) w w' := by
  obtain ⟨br, bk⟩ := b
  obtain ⟨er, ek, hE⟩ : ∃ er ek, liveE x x.me = ⟨er, ek⟩ := ⟨_, _, rfl⟩
  obtain ⟨tr, tk, hT⟩ : ∃ tr tk, tgtE x x.n = ⟨tr, tk⟩ := ⟨_, _, rfl⟩
  unfold turnA turnX
  rw [hE, hT]
  have f1 : isE0 er ek = decide ((⟨er, ek⟩ : Ep) = e0) := rfl
  have f2 : sameE tr tk er ek = decide ((⟨tr, tk⟩ : Ep) = ⟨er, ek⟩) := rfl
  have f3 : isE0 tr tk = decide ((⟨tr, tk⟩ : Ep) = e0) := rfl
  have f4 : sameE tr tk br bk = decide ((⟨tr, tk⟩ : Ep) = ⟨br, bk⟩) := rfl
  have f5 : isE0 br bk = decide ((⟨br, bk⟩ : Ep) = e0) := rfl
  by_cases h1 : (⟨er, ek⟩ : Ep) = e0
  · by_cases h2 : (⟨tr, tk⟩ : Ep) = ⟨er, ek⟩
    · have h3 : (⟨tr, tk⟩ : Ep) = e0 := h2.trans h1
      by_cases h5 : (⟨br, bk⟩ : Ep) = e0
      · have := turn_c7 br bk er ek tr tk w hM hx hE hT (by rw [f1]; simpa using h1) (by rw [f2]; simpa using h2) (by rw [f3]; simpa using h3) (by rw [f5]; simpa using h5)
        rw [if_neg (fun h => h.1 h1), if_neg (fun h => h.1 h3), if_neg (fun h => h.2 h5), if_neg (fun h => h.1 h1)]
        exact this
      · have := turn_c8 br bk er ek tr tk w hM hx hE hT (by rw [f1]; simpa using h1) (by rw [f2]; simpa using h2) (by rw [f3]; simpa using h3) (by rw [f5]; simpa using h5)
        rw [if_neg (fun h => h.1 h1), if_neg (fun h => h.1 h3), if_pos ⟨h3, h5⟩, if_neg (fun h => h.1 h1)]
        exact this
    · by_cases h3 : (⟨tr, tk⟩ : Ep) = e0
      · exact absurd (h3.trans h1.symm) h2
      · by_cases h4 : (⟨tr, tk⟩ : Ep) = ⟨br, bk⟩
        · have := turn_c4 br bk er ek tr tk w hM hx hE hT (by rw [f1]; simpa using h1) (by rw [f2]; simpa using h2) (by rw [f3]; simpa using h3) (by rw [f4]; simpa using h4)
          rw [if_neg (fun h => h.1 h1), if_neg (fun h => h.2.2 h4), if_neg (fun h => h3 h.1), if_neg (fun h => h.1 h1)]
          exact this
        · have := turn_c5 br bk er ek tr tk w hM hx hE hT (by rw [f1]; simpa using h1) (by rw [f2]; simpa using h2) (by rw [f3]; simpa using h3) (by rw [f4]; simpa using h4)
          rw [if_neg (fun h => h.1 h1), if_pos ⟨h3, h2, h4⟩, if_neg (fun h => h.1 h1)]
          exact this
  · by_cases h2 : (⟨tr, tk⟩ : Ep) = ⟨er, ek⟩
    · have h3 : ¬ (⟨tr, tk⟩ : Ep) = e0 := fun e => h1 (h2.symm.trans e)
      have := turn_c6 br bk er ek tr tk w hM hx hE hT (by rw [f1]; simpa using h1) (by rw [f2]; simpa using h2) (by rw [f3]; simpa using h3)
      rw [if_neg (fun h => h.2 h2), if_neg (fun h => h.2.1 h2), if_neg (fun h => h3 h.1), if_neg (fun h => h.2 h2)]
      exact this
    · have := turn_a br bk er ek tr tk w hM hx hE hT (by rw [f1]; simpa using h1) (by rw [f2]; simpa using h2)
      rw [if_pos ⟨h1, h2⟩, if_pos ⟨h1, h2⟩]
      exact this
end Go.Proofs.Ytjojhhkbebddmaa
