import Derived.Test.YtjojhhkbebddmaaE9
namespace Go.Proofs.Ytjojhhkbebddmaa
open Go.RowKit Go.PlainAid
set_option linter.unusedVariables false
set_option linter.unusedSimpArgs false
def peerB (x : EV) (f : Int) : Bool := decide (0 ≤ f ∧ f < x.n ∧ f ≠ x.me)
theorem isPeer_b {L mb cb : Nat} {x : EV} {A : List Ac} (r : Int) (w : World) (h : MM L mb cb x A w) : Calls Try.prog 64 #[.pointer (some ⟨mb, 0, none⟩), .int .i64 r] w fun e w' => e = .returned (.bool (peerB x r)) ∧ w' = w := isPeer_any r w h
def repOk (x : EV) (f : Int) (e : Ep) (h : Int) : Bool := !decide (liveE x x.me = e0) && decide (e = liveE x x.me) && peerB x f && cnt h
def repX (x : EV) (f : Int) (e : Ep) (h : Int) : EV := if repOk x f e h = true then { x with rep := up x.rep f.toNat true, hd := up x.hd f.toNat h } else x
set_option maxRecDepth 100000 in
set_option maxHeartbeats 6400000 in
theorem rep_1 {L mb cb : Nat} {x : EV} (f a b h er ek : Int) (w : World) (hM : MM L mb cb x [] w) (hx : x.Nm) (hE : liveE x x.me = ⟨er, ek⟩) (d1 : isE0 er ek = true) : Calls Try.prog 38 #[.pointer (some ⟨mb, 0, none⟩), .int .i64 f, .agg #[.int .i64 a, .int .i64 b], .int .i64 h] w fun e w' => e = .returned (.slice none 0 0) ∧ MM L mb cb x [] w' ∧ Chg (mown mb cb) w w' := by
  obtain ⟨⟨hn1, hn2⟩, hme, hhd⟩ := hx
  have hm := hM.b.lt
  have HM : Hid _ := hM
  have HO : Hid (∀ W, Below w.heap.size w W → Calls Try.prog 22 #[.pointer (some ⟨mb, 0, none⟩)] W fun e w' => e = .returned (epV ⟨er, ek⟩) ∧ Below W.heap.size W w') := fun W hW => by rw [← hE]; exact own_any W (hM.more hW) (by omega)
  have HN1 := neq49 a b er ek
  clear hE hM hhd
  unfold epV at *
  go_enter Try.func38, Try.ntmps38
  go_wp2_with (first
    | (go_at_call 22; refine Calls.mono (HO.out _ ((Below.refl _ _).alloc (Nat.le_refl _) _)) ?_; rintro e w1 ⟨rfl, hb1⟩; have hbw : Below w.heap.size w (w1.alloc (.cells #[.int .i64 er, .int .i64 ek] 49)) := bal (bgo ((Below.refl _ _).alloc (Nat.le_refl _) _) hb1 (Nat.le_refl _)) (Nat.le_refl _) _; have hpb : Blk (w1.alloc (.cells #[.int .i64 er, .int .i64 ek] 49)) w.heap.size #[.int .i64 a, .int .i64 b] 49 := Blk.allc (Blk.up (heap_alloc_new w _) hb1) _; have hqb : Blk (w1.alloc (.cells #[.int .i64 er, .int .i64 ek] 49)) w1.heap.size #[.int .i64 er, .int .i64 ek] 49 := heap_alloc_new w1 _)
    | (go_at_call 34; refine Calls.mono (isNone_b _ _ _) ?_; rintro e w3 ⟨rfl, hb3⟩; have hbz := bgo hbw hb3 (Nat.le_refl _); have hM3 : Hid _ := HM.out.more hbz; have p0 := (hpb.up hb3).cell 0; have p1 := (hpb.up hb3).cell 1; have q0 := (hqb.up hb3).cell 0; have q1 := (hqb.up hb3).cell 1; skip)
    | (go_at_call 64; refine Calls.mono (isPeer_b _ _ hM3.out) ?_; rintro e w4 ⟨rfl, rfl⟩)
    | (go_at_call 57; refine Calls.mono (isCount_cnt _ _) ?_; rintro e w4 ⟨rfl, rfl⟩)
    | fail)
  go_ret
  exact ⟨rfl, hM3.out, ebel mb cb hbz⟩
set_option maxRecDepth 100000 in
set_option maxHeartbeats 6400000 in
theorem rep_2 {L mb cb : Nat} {x : EV} (f a b h er ek : Int) (w : World) (hM : MM L mb cb x [] w) (hx : x.Nm) (hE : liveE x x.me = ⟨er, ek⟩) (d1 : isE0 er ek = false) (d2 : sameE a b er ek = false) : Calls Try.prog 38 #[.pointer (some ⟨mb, 0, none⟩), .int .i64 f, .agg #[.int .i64 a, .int .i64 b], .int .i64 h] w fun e w' => e = .returned (.slice none 0 0) ∧ MM L mb cb x [] w' ∧ Chg (mown mb cb) w w' := by
  obtain ⟨⟨hn1, hn2⟩, hme, hhd⟩ := hx
  have hm := hM.b.lt
  have HM : Hid _ := hM
  have HO : Hid (∀ W, Below w.heap.size w W → Calls Try.prog 22 #[.pointer (some ⟨mb, 0, none⟩)] W fun e w' => e = .returned (epV ⟨er, ek⟩) ∧ Below W.heap.size W w') := fun W hW => by rw [← hE]; exact own_any W (hM.more hW) (by omega)
  have HN1 := neq49 a b er ek
  clear hE hM hhd
  unfold epV at *
  go_enter Try.func38, Try.ntmps38
  go_wp2_with (first
    | (go_at_call 22; refine Calls.mono (HO.out _ ((Below.refl _ _).alloc (Nat.le_refl _) _)) ?_; rintro e w1 ⟨rfl, hb1⟩; have hbw : Below w.heap.size w (w1.alloc (.cells #[.int .i64 er, .int .i64 ek] 49)) := bal (bgo ((Below.refl _ _).alloc (Nat.le_refl _) _) hb1 (Nat.le_refl _)) (Nat.le_refl _) _; have hpb : Blk (w1.alloc (.cells #[.int .i64 er, .int .i64 ek] 49)) w.heap.size #[.int .i64 a, .int .i64 b] 49 := Blk.allc (Blk.up (heap_alloc_new w _) hb1) _; have hqb : Blk (w1.alloc (.cells #[.int .i64 er, .int .i64 ek] 49)) w1.heap.size #[.int .i64 er, .int .i64 ek] 49 := heap_alloc_new w1 _)
    | (go_at_call 34; refine Calls.mono (isNone_b _ _ _) ?_; rintro e w3 ⟨rfl, hb3⟩; have hbz := bgo hbw hb3 (Nat.le_refl _); have hM3 : Hid _ := HM.out.more hbz; have p0 := (hpb.up hb3).cell 0; have p1 := (hpb.up hb3).cell 1; have q0 := (hqb.up hb3).cell 0; have q1 := (hqb.up hb3).cell 1; skip)
    | (go_at_call 64; refine Calls.mono (isPeer_b _ _ hM3.out) ?_; rintro e w4 ⟨rfl, rfl⟩)
    | (go_at_call 57; refine Calls.mono (isCount_cnt _ _) ?_; rintro e w4 ⟨rfl, rfl⟩)
    | fail)
  go_ret
  exact ⟨rfl, hM3.out, ebel mb cb hbz⟩
set_option maxRecDepth 100000 in
set_option maxHeartbeats 6400000 in
theorem rep_3 {L mb cb : Nat} {x : EV} (f a b h er ek : Int) (w : World) (hM : MM L mb cb x [] w) (hx : x.Nm) (hE : liveE x x.me = ⟨er, ek⟩) (d1 : isE0 er ek = false) (d2 : sameE a b er ek = true) (d3 : peerB x f = false) : Calls Try.prog 38 #[.pointer (some ⟨mb, 0, none⟩), .int .i64 f, .agg #[.int .i64 a, .int .i64 b], .int .i64 h] w fun e w' => e = .returned (.slice none 0 0) ∧ MM L mb cb x [] w' ∧ Chg (mown mb cb) w w' := by
  obtain ⟨⟨hn1, hn2⟩, hme, hhd⟩ := hx
  have hm := hM.b.lt
  have HM : Hid _ := hM
  have HO : Hid (∀ W, Below w.heap.size w W → Calls Try.prog 22 #[.pointer (some ⟨mb, 0, none⟩)] W fun e w' => e = .returned (epV ⟨er, ek⟩) ∧ Below W.heap.size W w') := fun W hW => by rw [← hE]; exact own_any W (hM.more hW) (by omega)
  have HN1 := neq49 a b er ek
  clear hE hM hhd
  unfold epV at *
  go_enter Try.func38, Try.ntmps38
  go_wp2_with (first
    | (go_at_call 22; refine Calls.mono (HO.out _ ((Below.refl _ _).alloc (Nat.le_refl _) _)) ?_; rintro e w1 ⟨rfl, hb1⟩; have hbw : Below w.heap.size w (w1.alloc (.cells #[.int .i64 er, .int .i64 ek] 49)) := bal (bgo ((Below.refl _ _).alloc (Nat.le_refl _) _) hb1 (Nat.le_refl _)) (Nat.le_refl _) _; have hpb : Blk (w1.alloc (.cells #[.int .i64 er, .int .i64 ek] 49)) w.heap.size #[.int .i64 a, .int .i64 b] 49 := Blk.allc (Blk.up (heap_alloc_new w _) hb1) _; have hqb : Blk (w1.alloc (.cells #[.int .i64 er, .int .i64 ek] 49)) w1.heap.size #[.int .i64 er, .int .i64 ek] 49 := heap_alloc_new w1 _)
    | (go_at_call 34; refine Calls.mono (isNone_b _ _ _) ?_; rintro e w3 ⟨rfl, hb3⟩; have hbz := bgo hbw hb3 (Nat.le_refl _); have hM3 : Hid _ := HM.out.more hbz; have p0 := (hpb.up hb3).cell 0; have p1 := (hpb.up hb3).cell 1; have q0 := (hqb.up hb3).cell 0; have q1 := (hqb.up hb3).cell 1; skip)
    | (go_at_call 64; refine Calls.mono (isPeer_b _ _ hM3.out) ?_; rintro e w4 ⟨rfl, rfl⟩)
    | (go_at_call 57; refine Calls.mono (isCount_cnt _ _) ?_; rintro e w4 ⟨rfl, rfl⟩)
    | fail)
  go_ret
  exact ⟨rfl, hM3.out, ebel mb cb hbz⟩
set_option maxRecDepth 100000 in
set_option maxHeartbeats 6400000 in
theorem rep_4 {L mb cb : Nat} {x : EV} (f a b h er ek : Int) (w : World) (hM : MM L mb cb x [] w) (hx : x.Nm) (hE : liveE x x.me = ⟨er, ek⟩) (d1 : isE0 er ek = false) (d2 : sameE a b er ek = true) (d3 : peerB x f = true) (d4 : cnt h = false) : Calls Try.prog 38 #[.pointer (some ⟨mb, 0, none⟩), .int .i64 f, .agg #[.int .i64 a, .int .i64 b], .int .i64 h] w fun e w' => e = .returned (.slice none 0 0) ∧ MM L mb cb x [] w' ∧ Chg (mown mb cb) w w' := by
  obtain ⟨⟨hn1, hn2⟩, hme, hhd⟩ := hx
  have hm := hM.b.lt
  have HM : Hid _ := hM
  have HO : Hid (∀ W, Below w.heap.size w W → Calls Try.prog 22 #[.pointer (some ⟨mb, 0, none⟩)] W fun e w' => e = .returned (epV ⟨er, ek⟩) ∧ Below W.heap.size W w') := fun W hW => by rw [← hE]; exact own_any W (hM.more hW) (by omega)
  have HN1 := neq49 a b er ek
  clear hE hM hhd
  unfold epV at *
  go_enter Try.func38, Try.ntmps38
  go_wp2_with (first
    | (go_at_call 22; refine Calls.mono (HO.out _ ((Below.refl _ _).alloc (Nat.le_refl _) _)) ?_; rintro e w1 ⟨rfl, hb1⟩; have hbw : Below w.heap.size w (w1.alloc (.cells #[.int .i64 er, .int .i64 ek] 49)) := bal (bgo ((Below.refl _ _).alloc (Nat.le_refl _) _) hb1 (Nat.le_refl _)) (Nat.le_refl _) _; have hpb : Blk (w1.alloc (.cells #[.int .i64 er, .int .i64 ek] 49)) w.heap.size #[.int .i64 a, .int .i64 b] 49 := Blk.allc (Blk.up (heap_alloc_new w _) hb1) _; have hqb : Blk (w1.alloc (.cells #[.int .i64 er, .int .i64 ek] 49)) w1.heap.size #[.int .i64 er, .int .i64 ek] 49 := heap_alloc_new w1 _)
    | (go_at_call 34; refine Calls.mono (isNone_b _ _ _) ?_; rintro e w3 ⟨rfl, hb3⟩; have hbz := bgo hbw hb3 (Nat.le_refl _); have hM3 : Hid _ := HM.out.more hbz; have p0 := (hpb.up hb3).cell 0; have p1 := (hpb.up hb3).cell 1; have q0 := (hqb.up hb3).cell 0; have q1 := (hqb.up hb3).cell 1; skip)
    | (go_at_call 64; refine Calls.mono (isPeer_b _ _ hM3.out) ?_; rintro e w4 ⟨rfl, rfl⟩)
    | (go_at_call 57; refine Calls.mono (isCount_cnt _ _) ?_; rintro e w4 ⟨rfl, rfl⟩)
    | fail)
  go_ret
  exact ⟨rfl, hM3.out, ebel mb cb hbz⟩
set_option maxRecDepth 100000 in
set_option maxHeartbeats 6400000 in
theorem rep_5 {L mb cb : Nat} {x : EV} (f a b h er ek : Int) (w : World) (hM : MM L mb cb x [] w) (hx : x.Nm) (hE : liveE x x.me = ⟨er, ek⟩) (d1 : isE0 er ek = false) (d2 : sameE a b er ek = true) (d3 : peerB x f = true) (d4 : cnt h = true) (k : Nat) (hk : f = (k : Int)) (hk16 : k < 16) : Calls Try.prog 38 #[.pointer (some ⟨mb, 0, none⟩), .int .i64 f, .agg #[.int .i64 a, .int .i64 b], .int .i64 h] w fun e w' => e = .returned (.slice none 0 0) ∧ MM L mb cb { x with rep := up x.rep k true, hd := up x.hd k h } [] w' ∧ Chg (mown mb cb) w w' := by
  obtain ⟨⟨hn1, hn2⟩, hme, hhd⟩ := hx
  have hm := hM.b.lt
  have HM : Hid _ := hM
  have HO : Hid (∀ W, Below w.heap.size w W → Calls Try.prog 22 #[.pointer (some ⟨mb, 0, none⟩)] W fun e w' => e = .returned (epV ⟨er, ek⟩) ∧ Below W.heap.size W w') := fun W hW => by rw [← hE]; exact own_any W (hM.more hW) (by omega)
  have HN1 := neq49 a b er ek
  clear hE hM hhd
  unfold epV at *
  subst hk
  go_enter Try.func38, Try.ntmps38
  go_wp2_with (first
    | (go_at_call 22; refine Calls.mono (HO.out _ ((Below.refl _ _).alloc (Nat.le_refl _) _)) ?_; rintro e w1 ⟨rfl, hb1⟩; have hbw : Below w.heap.size w (w1.alloc (.cells #[.int .i64 er, .int .i64 ek] 49)) := bal (bgo ((Below.refl _ _).alloc (Nat.le_refl _) _) hb1 (Nat.le_refl _)) (Nat.le_refl _) _; have hpb : Blk (w1.alloc (.cells #[.int .i64 er, .int .i64 ek] 49)) w.heap.size #[.int .i64 a, .int .i64 b] 49 := Blk.allc (Blk.up (heap_alloc_new w _) hb1) _; have hqb : Blk (w1.alloc (.cells #[.int .i64 er, .int .i64 ek] 49)) w1.heap.size #[.int .i64 er, .int .i64 ek] 49 := heap_alloc_new w1 _)
    | (go_at_call 34; refine Calls.mono (isNone_b _ _ _) ?_; rintro e w3 ⟨rfl, hb3⟩; have hbz := bgo hbw hb3 (Nat.le_refl _); have hM3 : Hid _ := HM.out.more hbz; have p0 := (hpb.up hb3).cell 0; have p1 := (hpb.up hb3).cell 1; have q0 := (hqb.up hb3).cell 0; have q1 := (hqb.up hb3).cell 1; have z0 := hM3.out.crep hk16; have z1 := hM3.out.chd hk16; have z2 := hM3.out.b.frozen (35 + k); have z3 := hM3.out.b.frozen (51 + k))
    | (go_at_call 64; refine Calls.mono (isPeer_b _ _ hM3.out) ?_; rintro e w4 ⟨rfl, rfl⟩)
    | (go_at_call 57; refine Calls.mono (isCount_cnt _ _) ?_; rintro e w4 ⟨rfl, rfl⟩)
    | fail)
  go_ret
  refine ⟨rfl, ?_, (ebel mb cb hbz).trans (((setCell_chg _ _ _ _).trans (setCell_chg _ _ _ _) (fun _ _ e => e)).mono (B := mown mb cb) (fun j _ e => .inl e)) (fun _ _ e => e)⟩
  exact (hM3.out.setRep (r := k) (by omega) true).setHd (by omega) h
theorem report_any {L mb cb : Nat} {x : EV} (f : Int) (e : Ep) (h : Int) (w : World) (hM : MM L mb cb x [] w) (hx : x.Nm) : Calls Try.prog 38 #[.pointer (some ⟨mb, 0, none⟩), .int .i64 f, epV e, .int .i64 h] w fun r w' => r = .returned (.slice none 0 0) ∧ MM L mb cb (repX x f e h) [] w' ∧ Chg (mown mb cb) w w' := by
  obtain ⟨a, b⟩ := e
  obtain ⟨er, ek, hE⟩ : ∃ er ek, liveE x x.me = ⟨er, ek⟩ := ⟨_, _, rfl⟩
  unfold repX repOk
  rw [hE]
  have f1 : isE0 er ek = decide ((⟨er, ek⟩ : Ep) = e0) := rfl
  have f2 : sameE a b er ek = decide ((⟨a, b⟩ : Ep) = ⟨er, ek⟩) := rfl
  rw [← f1, ← f2]
  cases h1 : isE0 er ek
  · cases h2 : sameE a b er ek
    · exact rep_2 f a b h er ek w hM hx hE h1 h2
    · cases h3 : peerB x f
      · exact rep_3 f a b h er ek w hM hx hE h1 h2 h3
      · cases h4 : cnt h
        · exact rep_4 f a b h er ek w hM hx hE h1 h2 h3 h4
        · have hp : 0 ≤ f ∧ f < x.n ∧ f ≠ x.me := by unfold peerB at h3; simpa using h3
          have := hx.n
          exact rep_5 f a b h er ek w hM hx hE h1 h2 h3 h4 f.toNat (by omega) (by omega)
  · exact rep_1 f a b h er ek w hM hx hE h1
end Go.Proofs.Ytjojhhkbebddmaa
