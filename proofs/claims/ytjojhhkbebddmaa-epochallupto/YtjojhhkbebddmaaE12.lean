import Derived.Test.YtjojhhkbebddmaaE11
namespace Go.Proofs.Ytjojhhkbebddmaa
open Go.RowKit Go.PlainAid
set_option linter.unusedVariables false
set_option linter.unusedSimpArgs false
set_option maxRecDepth 100000 in
set_option maxHeartbeats 6400000 in
theorem hear_any {L mb cb : Nat} {x : EV} (e : Ep) (w : World) (hM : MM L mb cb x [] w) (hx : x.Nm) : Calls Try.prog 36 #[.pointer (some ⟨mb, 0, none⟩), epV e] w fun r w' => ∃ v, r = .returned v ∧ w'.ownsRow w.heap.size 56 6 v (enA x e0 e).length (flatA (enA x e0 e)) ∧ MM L mb cb (enX x e0 e) [] w' ∧ Chg (mown mb cb) w w' := by
  obtain ⟨a, b⟩ := e
  have HM : Hid _ := hM
  have HX : Hid _ := hx
  clear hM hx
  unfold epV at *
  go_enter Try.func36, Try.ntmps36
  go_wp2_with (first
    | (go_at_call 37; refine Calls.mono (end_any e0 ⟨a, b⟩ _ (HM.out.more ((Below.refl _ _).alloc (Nat.le_refl _) _)) HX.out) ?_; rintro e w6 ⟨v6, rfl, ho6, hm6, hc6⟩)
    | fail)
  go_ret
  have hb : Below w.heap.size w (w.alloc (.cells #[.int .i64 a, .int .i64 b] 49)) := (Below.refl _ _).alloc (Nat.le_refl _) _
  exact ⟨v6, rfl, ownsRow_mono ho6 hb.size, hm6, (ebel mb cb hb).trans hc6 (fun j _ e => e)⟩
def begC (x : EV) (l r h : Int) : Int := if cnts l r h = false then 1 else if tgtE x x.n ≠ e0 then 62 else if 1099511627776 < lastR x.kn 16 + 1 then 2 else 0
def begY (x : EV) (q : Bool) : EV := { x with kn := up x.kn x.me (lastR x.kn 16 + 1), need := q, rep := fun _ => false, hd := fun _ => 0 }
def begX (x : EV) (l r h : Int) (q : Bool) : EV := if begC x l r h = 0 then begY x q else x
def begA (x : EV) (l r h : Int) (q : Bool) : List Ac := if begC x l r h = 0 then (if hasB (begY x q) l r h = true then [⟨4, x.me, liveE (begY x q) x.me, e0⟩] else [⟨1, -1, liveE (begY x q) x.me, e0⟩]) else []
theorem EV.Nm.begY {x : EV} (h : x.Nm) (q : Bool) : (begY x q).Nm := ⟨h.n, h.me, fun j => ⟨by show (0 : Int) ≤ 0; omega, by show (0 : Int) ≤ _; omega⟩⟩
set_option maxRecDepth 100000 in
set_option maxHeartbeats 6400000 in
theorem beg_1 {L mb cb : Nat} {x : EV} (l r h : Int) (q : Bool) (w : World) (hM : MM L mb cb x [] w) (hx : x.Nm) (hl : 0 ≤ lastR x.kn 16 ∧ lastR x.kn 16 ≤ 1099511627776) (d1 : cnts l r h = false) : Calls Try.prog 17 #[.pointer (some ⟨mb, 0, none⟩), .int .i64 l, .int .i64 r, .int .i64 h, .bool q] w fun e w' => ∃ v, e = .returned (.tuple #[v, .int .i64 1]) ∧ w'.ownsRow w.heap.size 56 6 v ([] : List Ac).length (flatA []) ∧ MM L mb cb x [] w' ∧ Chg (mown mb cb) w w' := by
  have hn2 := hx.n.2
  have hm := hM.b.lt
  have HM : Hid _ := hM
  have HX : Hid _ := hx
  have HF : Hid _ := frozen_any w hM hn2
  have hme : x.me < 16 := by have := hx.me; omega
  obtain ⟨n, hn⟩ : ∃ n, n = lastR x.kn 16 := ⟨_, rfl⟩
  have HN : Hid (n = lastR x.kn 16) := hn
  rw [← hn] at hl
  have HL : Hid (Calls Try.prog 29 #[.pointer (some ⟨mb, 0, none⟩)] w fun e w' => e = .returned (.int .i64 n) ∧ w' = w) := show Calls Try.prog 29 #[.pointer (some ⟨mb, 0, none⟩)] w fun e w' => e = .returned (.int .i64 n) ∧ w' = w from by rw [hn]; exact lastRound_any w hM
  have HC : Hid (∀ W, Calls Try.prog 30 #[.int .i64 l, .int .i64 r, .int .i64 h] W fun e w' => e = .returned (.bool false) ∧ w' = W) := fun W => by rw [← d1]; exact areCounts_any l r h W
  clear hM hx hn hn2
  go_enter Try.func17, Try.ntmps17
  go_wp2_with (first
    | (go_at_call 29; refine Calls.mono HL.out ?_; rintro e w1 ⟨rfl, hw1⟩; replace hw1 := hw1.symm; subst hw1)
    | (go_at_call 30; refine Calls.mono (HC.out _) ?_; rintro e w1 ⟨rfl, hw1⟩; replace hw1 := hw1.symm; subst hw1)
    | fail)
  go_ret2
  exact ⟨_, rfl, World.ownsRow_nil _ _ _ _, HM.out, Chg.refl _ _⟩
set_option maxRecDepth 100000 in
set_option maxHeartbeats 6400000 in
theorem beg_2 {L mb cb : Nat} {x : EV} (l r h : Int) (q : Bool) (w : World) (hM : MM L mb cb x [] w) (hx : x.Nm) (hl : 0 ≤ lastR x.kn 16 ∧ lastR x.kn 16 ≤ 1099511627776) (d1 : cnts l r h = true) (d2 : tgtE x x.n ≠ e0) : Calls Try.prog 17 #[.pointer (some ⟨mb, 0, none⟩), .int .i64 l, .int .i64 r, .int .i64 h, .bool q] w fun e w' => ∃ v, e = .returned (.tuple #[v, .int .i64 62]) ∧ w'.ownsRow w.heap.size 56 6 v ([] : List Ac).length (flatA []) ∧ MM L mb cb x [] w' ∧ Chg (mown mb cb) w w' := by
  have hn2 := hx.n.2
  have hm := hM.b.lt
  have HM : Hid _ := hM
  have HX : Hid _ := hx
  have HF : Hid _ := frozen_any w hM hn2
  have hme : x.me < 16 := by have := hx.me; omega
  rw [show (!decide (tgtE x x.n = e0)) = true from by simp [d2]] at HF
  obtain ⟨n, hn⟩ : ∃ n, n = lastR x.kn 16 := ⟨_, rfl⟩
  have HN : Hid (n = lastR x.kn 16) := hn
  rw [← hn] at hl
  have HL : Hid (Calls Try.prog 29 #[.pointer (some ⟨mb, 0, none⟩)] w fun e w' => e = .returned (.int .i64 n) ∧ w' = w) := show Calls Try.prog 29 #[.pointer (some ⟨mb, 0, none⟩)] w fun e w' => e = .returned (.int .i64 n) ∧ w' = w from by rw [hn]; exact lastRound_any w hM
  have HC : Hid (∀ W, Calls Try.prog 30 #[.int .i64 l, .int .i64 r, .int .i64 h] W fun e w' => e = .returned (.bool true) ∧ w' = W) := fun W => by rw [← d1]; exact areCounts_any l r h W
  clear hM hx hn hn2
  go_enter Try.func17, Try.ntmps17
  go_wp2_with (first
    | (go_at_call 29; refine Calls.mono HL.out ?_; rintro e w1 ⟨rfl, hw1⟩; replace hw1 := hw1.symm; subst hw1)
    | (go_at_call 30; refine Calls.mono (HC.out _) ?_; rintro e w1 ⟨rfl, hw1⟩; replace hw1 := hw1.symm; subst hw1)
    | (go_at_call 19; refine Calls.mono HF.out ?_; rintro e w1 ⟨rfl, hb1⟩)
    | fail)
  go_ret2
  exact ⟨_, rfl, World.ownsRow_nil _ _ _ _, HM.out.more hb1, ebel mb cb hb1⟩
set_option maxRecDepth 100000 in
set_option maxHeartbeats 6400000 in
theorem beg_3 {L mb cb : Nat} {x : EV} (l r h : Int) (q : Bool) (w : World) (hM : MM L mb cb x [] w) (hx : x.Nm) (hl : 0 ≤ lastR x.kn 16 ∧ lastR x.kn 16 ≤ 1099511627776) (d1 : cnts l r h = true) (d2 : tgtE x x.n = e0) (d3 : 1099511627776 < lastR x.kn 16 + 1) : Calls Try.prog 17 #[.pointer (some ⟨mb, 0, none⟩), .int .i64 l, .int .i64 r, .int .i64 h, .bool q] w fun e w' => ∃ v, e = .returned (.tuple #[v, .int .i64 2]) ∧ w'.ownsRow w.heap.size 56 6 v ([] : List Ac).length (flatA []) ∧ MM L mb cb x [] w' ∧ Chg (mown mb cb) w w' := by
  have hn2 := hx.n.2
  have hm := hM.b.lt
  have HM : Hid _ := hM
  have HX : Hid _ := hx
  have HF : Hid _ := frozen_any w hM hn2
  have hme : x.me < 16 := by have := hx.me; omega
  rw [show (!decide (tgtE x x.n = e0)) = false from by simp [d2]] at HF
  obtain ⟨n, hn⟩ : ∃ n, n = lastR x.kn 16 := ⟨_, rfl⟩
  have HN : Hid (n = lastR x.kn 16) := hn
  rw [← hn] at hl
  have HL : Hid (Calls Try.prog 29 #[.pointer (some ⟨mb, 0, none⟩)] w fun e w' => e = .returned (.int .i64 n) ∧ w' = w) := show Calls Try.prog 29 #[.pointer (some ⟨mb, 0, none⟩)] w fun e w' => e = .returned (.int .i64 n) ∧ w' = w from by rw [hn]; exact lastRound_any w hM
  have HC : Hid (∀ W, Calls Try.prog 30 #[.int .i64 l, .int .i64 r, .int .i64 h] W fun e w' => e = .returned (.bool true) ∧ w' = W) := fun W => by rw [← d1]; exact areCounts_any l r h W
  clear hM hx hn hn2
  have hn3 : n = 1099511627776 := by have := HN.out; omega
  subst hn3
  go_enter Try.func17, Try.ntmps17
  go_wp2_with (first
    | (go_at_call 29; refine Calls.mono HL.out ?_; rintro e w1 ⟨rfl, hw1⟩; replace hw1 := hw1.symm; subst hw1)
    | (go_at_call 30; refine Calls.mono (HC.out _) ?_; rintro e w1 ⟨rfl, hw1⟩; replace hw1 := hw1.symm; subst hw1)
    | (go_at_call 19; refine Calls.mono HF.out ?_; rintro e w1 ⟨rfl, hb1⟩)
    | fail)
  go_ret2
  exact ⟨_, rfl, World.ownsRow_nil _ _ _ _, HM.out.more hb1, ebel mb cb hb1⟩
set_option maxRecDepth 100000 in
set_option maxHeartbeats 6400000 in
theorem beg_4 {L mb cb : Nat} {x : EV} (l r h : Int) (q : Bool) (w : World) (hM : MM L mb cb x [] w) (hx : x.Nm) (hl : 0 ≤ lastR x.kn 16 ∧ lastR x.kn 16 ≤ 1099511627776) (d1 : cnts l r h = true) (d2 : tgtE x x.n = e0) (d3 : ¬ 1099511627776 < lastR x.kn 16 + 1) (d4 : hasB (begY x q) l r h = true) : Calls Try.prog 17 #[.pointer (some ⟨mb, 0, none⟩), .int .i64 l, .int .i64 r, .int .i64 h, .bool q] w fun e w' => ∃ v, e = .returned (.tuple #[v, .int .i64 0]) ∧ w'.ownsRow w.heap.size 56 6 v ([⟨4, x.me, liveE (begY x q) x.me, e0⟩] : List Ac).length (flatA [⟨4, x.me, liveE (begY x q) x.me, e0⟩]) ∧ MM L mb cb (begY x q) [] w' ∧ Chg (mown mb cb) w w' := by
  have hn2 := hx.n.2
  have hm := hM.b.lt
  have HM : Hid _ := hM
  have HX : Hid _ := hx
  have HF : Hid _ := frozen_any w hM hn2
  have hme : x.me < 16 := by have := hx.me; omega
  rw [show (!decide (tgtE x x.n = e0)) = false from by simp [d2]] at HF
  obtain ⟨n, hn⟩ : ∃ n, n = lastR x.kn 16 := ⟨_, rfl⟩
  have HN : Hid (n = lastR x.kn 16) := hn
  rw [← hn] at hl
  have HL : Hid (Calls Try.prog 29 #[.pointer (some ⟨mb, 0, none⟩)] w fun e w' => e = .returned (.int .i64 n) ∧ w' = w) := show Calls Try.prog 29 #[.pointer (some ⟨mb, 0, none⟩)] w fun e w' => e = .returned (.int .i64 n) ∧ w' = w from by rw [hn]; exact lastRound_any w hM
  have HC : Hid (∀ W, Calls Try.prog 30 #[.int .i64 l, .int .i64 r, .int .i64 h] W fun e w' => e = .returned (.bool true) ∧ w' = W) := fun W => by rw [← d1]; exact areCounts_any l r h W
  clear hM hx hn hn2
  have hn3 : n + 1 ≤ 1099511627776 := by have := HN.out; omega
  obtain ⟨er, ek, hE⟩ : ∃ er ek, liveE (begY x q) x.me = ⟨er, ek⟩ := ⟨_, _, rfl⟩
  rw [hE]
  have HO : Hid (∀ W, MM L mb cb (begY x q) [] W → Calls Try.prog 22 #[.pointer (some ⟨mb, 0, none⟩)] W fun e w' => e = .returned (epV ⟨er, ek⟩) ∧ Below W.heap.size W w') := fun W hW => by rw [← hE]; exact own_any W hW hme
  have HB : Hid (∀ W, MM L mb cb (begY x q) [] W → Calls Try.prog 31 #[.pointer (some ⟨mb, 0, none⟩), .int .i64 l, .int .i64 r, .int .i64 h] W fun e w' => e = .returned (.bool true) ∧ Below W.heap.size W w') := fun W hW => by rw [← d4]; exact hasAll_any l r h W hW (HX.out.begY q)
  clear hE d1 d2 d3 d4
  unfold epV at *
  go_enter Try.func17, Try.ntmps17
  go_upto_region 8 with (first
    | (go_at_call 29; refine Calls.mono HL.out ?_; rintro e w1 ⟨rfl, hw1⟩; replace hw1 := hw1.symm; subst hw1)
    | (go_at_call 30; refine Calls.mono (HC.out _) ?_; rintro e w1 ⟨rfl, hw1⟩; replace hw1 := hw1.symm; subst hw1)
    | (go_at_call 19; refine Calls.mono HF.out ?_; rintro e w1 ⟨rfl, hb1⟩)
    | fail)
  have hM1 := HM.out.more hb1
  have c0 := hM1.c0
  have ck := hM1.ckn hme
  have fk := hM1.b.frozen (2 + x.me)
  have hm1 := hM1.b.lt
  have HM1 : Hid _ := hM1
  have HB1 : Hid _ := hb1
  clear hM1 hb1
  go_region
  all_goals
    generalize hX : (w1.setCell ⟨mb, 2 + x.me, none⟩ (.int .i64 (n + 1))).drew = X
    have hF : MM L mb cb { x with kn := up x.kn x.me (n + 1) } [] X ∧ Chg (fun k => k = mb) w1 X := by rw [← hX]; exact fin_drew (HM1.out.setKn hme _) (setCell_chg _ _ _ _)
    have HFF : Hid _ := hF
    have hth : X.there mb 34 33 := hF.1.b.there 34 33 (show 34 + 33 ≤ 68 by decide)
    clear hX hF ck c0 fk
    go_upto_region 9 with fail
    refine wp_region_lit ?_
    refine st_yes (v := .pointer (some ⟨mb, 0, none⟩)) (wanted_none rfl) (by simp [go_sem, execOp, Act.eval]) ?_
    refine st_yes (v := .bool q) (wanted_none rfl) (by simp [go_sem, execOp, Act.eval, Act.put]) ?_
    refine st_yes (v := .agg (gcellsN q)) (wanted_none rfl) (by simp [go_sem, execOp, Act.eval, Act.put, gcellsN, gcells]) ?_
    refine st_yes (v := .pointer (some ⟨mb, 0, none⟩)) (wanted_none rfl) (by simp [go_sem, execOp, Act.eval, Act.put]) ?_
    refine st_yes (v := .pointer (some ⟨mb, 34, none⟩)) (wanted_none rfl) (by simp [go_sem, execOp, Act.eval, Act.put]) ?_
    refine wpList_store_mid rfl 84 (.tmp 41) (.tmp 39) rfl mb 34 (gcellsN q) (by simp [Act.eval, Act.put]) (by simp [Act.eval, Act.put]) hth isz84 (by cases q <;> first | decide | kernel_rfl) ?_
    refine wpList_nil ?_
    simp only [Act.put, List.setIfInBounds_toArray, List.set_cons_succ, List.set_cons_zero]
    have hM9 : MM L mb cb (begY x q) [] (X.setCells mb 34 (gcellsN q).toList) := show MM _ _ _ _ _ _ from by
      have := HFF.out.1.setG q
      rw [HN.out] at this
      exact this
    have hC9 : Chg (mown mb cb) w (X.setCells mb 34 (gcellsN q).toList) := (ebel mb cb HB1.out).trans (HFF.out.2.trans (setCells_chg mb (gcellsN q).toList X 34) (fun _ _ e => e)) (fun j _ e => .inl e)
    have HM9 : Hid _ := hM9
    have HC9 : Hid _ := hC9
    generalize X.setCells mb 34 (gcellsN q).toList = W9 at *
    clear hM9 hC9 HFF hth
    go_upto_region 11 with (first
      | (go_at_call 31; refine Calls.mono (HB.out _ HM9.out) ?_; rintro e w2 ⟨rfl, hb2⟩)
      | fail)
    have hbd : Below W9.heap.size W9 w2.drew := hb2.drew
    have c0 : w2.cell? ⟨mb, 0, none⟩ = some (.int .i64 (x.me : Int)) := (HM9.out.more hb2).c0
    have c0d : w2.drew.cell? ⟨mb, 0, none⟩ = some (.int .i64 (x.me : Int)) := (HM9.out.more hbd).c0
    go_region_with (first
      | (go_at_call 22; refine Calls.mono (HO.out _ (HM9.out.more hbd)) ?_; rintro e w3 ⟨rfl, hb3⟩; have hM3 := HM9.out.more (bgo hbd hb3 (Nat.le_refl _)); have c03 := hM3.c0; have HM3 : Hid _ := hM3; have HC3 : Hid _ := HC9.out.trans (ebel mb cb (bgo hbd hb3 (Nat.le_refl _))) (fun _ _ e => e); clear hM3)
      | (go_at_call 32; refine Calls.mono (ask_any (⟨4, x.me, ⟨er, ek⟩, e0⟩ : Ac) _ HM3.out (by simp)) ?_; rintro e w5 ⟨rfl, hm5, hc5⟩))
    all_goals
      go_wp2_with (first
        | (go_at_call 33; refine Calls.mono (asked_any _ hm5 (by simp)) ?_; rintro e w6 ⟨v6, rfl, ho6, hm6, hc6⟩)
        | fail)
    all_goals
      go_ret2
      have hcc := HC3.out.trans hc5 (fun j _ e => e)
      exact ⟨v6, rfl, ownsRow_mono ho6 hcc.size, hm6, hcc.trans hc6 (fun j _ e => e)⟩
set_option maxRecDepth 100000 in
set_option maxHeartbeats 6400000 in
theorem beg_5 {L mb cb : Nat} {x : EV} (l r h : Int) (q : Bool) (w : World) (hM : MM L mb cb x [] w) (hx : x.Nm) (hl : 0 ≤ lastR x.kn 16 ∧ lastR x.kn 16 ≤ 1099511627776) (d1 : cnts l r h = true) (d2 : tgtE x x.n = e0) (d3 : ¬ 1099511627776 < lastR x.kn 16 + 1) (d4 : hasB (begY x q) l r h = false) : Calls Try.prog 17 #[.pointer (some ⟨mb, 0, none⟩), .int .i64 l, .int .i64 r, .int .i64 h, .bool q] w fun e w' => ∃ v, e = .returned (.tuple #[v, .int .i64 0]) ∧ w'.ownsRow w.heap.size 56 6 v ([⟨1, -1, liveE (begY x q) x.me, e0⟩] : List Ac).length (flatA [⟨1, -1, liveE (begY x q) x.me, e0⟩]) ∧ MM L mb cb (begY x q) [] w' ∧ Chg (mown mb cb) w w' := by
  have hn2 := hx.n.2
  have hm := hM.b.lt
  have HM : Hid _ := hM
  have HX : Hid _ := hx
  have HF : Hid _ := frozen_any w hM hn2
  have hme : x.me < 16 := by have := hx.me; omega
  rw [show (!decide (tgtE x x.n = e0)) = false from by simp [d2]] at HF
  obtain ⟨n, hn⟩ : ∃ n, n = lastR x.kn 16 := ⟨_, rfl⟩
  have HN : Hid (n = lastR x.kn 16) := hn
  rw [← hn] at hl
  have HL : Hid (Calls Try.prog 29 #[.pointer (some ⟨mb, 0, none⟩)] w fun e w' => e = .returned (.int .i64 n) ∧ w' = w) := show Calls Try.prog 29 #[.pointer (some ⟨mb, 0, none⟩)] w fun e w' => e = .returned (.int .i64 n) ∧ w' = w from by rw [hn]; exact lastRound_any w hM
  have HC : Hid (∀ W, Calls Try.prog 30 #[.int .i64 l, .int .i64 r, .int .i64 h] W fun e w' => e = .returned (.bool true) ∧ w' = W) := fun W => by rw [← d1]; exact areCounts_any l r h W
  clear hM hx hn hn2
  have hn3 : n + 1 ≤ 1099511627776 := by have := HN.out; omega
  obtain ⟨er, ek, hE⟩ : ∃ er ek, liveE (begY x q) x.me = ⟨er, ek⟩ := ⟨_, _, rfl⟩
  rw [hE]
  have HO : Hid (∀ W, MM L mb cb (begY x q) [] W → Calls Try.prog 22 #[.pointer (some ⟨mb, 0, none⟩)] W fun e w' => e = .returned (epV ⟨er, ek⟩) ∧ Below W.heap.size W w') := fun W hW => by rw [← hE]; exact own_any W hW hme
  have HB : Hid (∀ W, MM L mb cb (begY x q) [] W → Calls Try.prog 31 #[.pointer (some ⟨mb, 0, none⟩), .int .i64 l, .int .i64 r, .int .i64 h] W fun e w' => e = .returned (.bool false) ∧ Below W.heap.size W w') := fun W hW => by rw [← d4]; exact hasAll_any l r h W hW (HX.out.begY q)
  clear hE d1 d2 d3 d4
  unfold epV at *
  go_enter Try.func17, Try.ntmps17
  go_upto_region 8 with (first
    | (go_at_call 29; refine Calls.mono HL.out ?_; rintro e w1 ⟨rfl, hw1⟩; replace hw1 := hw1.symm; subst hw1)
    | (go_at_call 30; refine Calls.mono (HC.out _) ?_; rintro e w1 ⟨rfl, hw1⟩; replace hw1 := hw1.symm; subst hw1)
    | (go_at_call 19; refine Calls.mono HF.out ?_; rintro e w1 ⟨rfl, hb1⟩)
    | fail)
  have hM1 := HM.out.more hb1
  have c0 := hM1.c0
  have ck := hM1.ckn hme
  have fk := hM1.b.frozen (2 + x.me)
  have hm1 := hM1.b.lt
  have HM1 : Hid _ := hM1
  have HB1 : Hid _ := hb1
  clear hM1 hb1
  go_region
  all_goals
    generalize hX : (w1.setCell ⟨mb, 2 + x.me, none⟩ (.int .i64 (n + 1))).drew = X
    have hF : MM L mb cb { x with kn := up x.kn x.me (n + 1) } [] X ∧ Chg (fun k => k = mb) w1 X := by rw [← hX]; exact fin_drew (HM1.out.setKn hme _) (setCell_chg _ _ _ _)
    have HFF : Hid _ := hF
    have hth : X.there mb 34 33 := hF.1.b.there 34 33 (show 34 + 33 ≤ 68 by decide)
    clear hX hF ck c0 fk
    go_upto_region 9 with fail
    refine wp_region_lit ?_
    refine st_yes (v := .pointer (some ⟨mb, 0, none⟩)) (wanted_none rfl) (by simp [go_sem, execOp, Act.eval]) ?_
    refine st_yes (v := .bool q) (wanted_none rfl) (by simp [go_sem, execOp, Act.eval, Act.put]) ?_
    refine st_yes (v := .agg (gcellsN q)) (wanted_none rfl) (by simp [go_sem, execOp, Act.eval, Act.put, gcellsN, gcells]) ?_
    refine st_yes (v := .pointer (some ⟨mb, 0, none⟩)) (wanted_none rfl) (by simp [go_sem, execOp, Act.eval, Act.put]) ?_
    refine st_yes (v := .pointer (some ⟨mb, 34, none⟩)) (wanted_none rfl) (by simp [go_sem, execOp, Act.eval, Act.put]) ?_
    refine wpList_store_mid rfl 84 (.tmp 41) (.tmp 39) rfl mb 34 (gcellsN q) (by simp [Act.eval, Act.put]) (by simp [Act.eval, Act.put]) hth isz84 (by cases q <;> first | decide | kernel_rfl) ?_
    refine wpList_nil ?_
    simp only [Act.put, List.setIfInBounds_toArray, List.set_cons_succ, List.set_cons_zero]
    have hM9 : MM L mb cb (begY x q) [] (X.setCells mb 34 (gcellsN q).toList) := show MM _ _ _ _ _ _ from by
      have := HFF.out.1.setG q
      rw [HN.out] at this
      exact this
    have hC9 : Chg (mown mb cb) w (X.setCells mb 34 (gcellsN q).toList) := (ebel mb cb HB1.out).trans (HFF.out.2.trans (setCells_chg mb (gcellsN q).toList X 34) (fun _ _ e => e)) (fun j _ e => .inl e)
    have HM9 : Hid _ := hM9
    have HC9 : Hid _ := hC9
    generalize X.setCells mb 34 (gcellsN q).toList = W9 at *
    clear hM9 hC9 HFF hth
    go_wp2_with (first
      | (go_at_call 31; refine Calls.mono (HB.out _ HM9.out) ?_; rintro e w2 ⟨rfl, hb2⟩)
      | (go_at_call 22; refine Calls.mono (HO.out _ (HM9.out.more hb2)) ?_; rintro e w3 ⟨rfl, hb3⟩; have hM3 := HM9.out.more (bgo hb2 hb3 (Nat.le_refl _)); have c03 := hM3.c0; have HM3 : Hid _ := hM3; have HC3 : Hid _ := HC9.out.trans (ebel mb cb (bgo hb2 hb3 (Nat.le_refl _))) (fun _ _ e => e); clear hM3)
      | (go_at_call 32; refine Calls.mono (ask_any (⟨1, -1, ⟨er, ek⟩, e0⟩ : Ac) _ HM3.out (by simp)) ?_; rintro e w5 ⟨rfl, hm5, hc5⟩)
      | (go_at_call 33; refine Calls.mono (asked_any _ hm5 (by simp)) ?_; rintro e w6 ⟨v6, rfl, ho6, hm6, hc6⟩)
      | fail)
    all_goals
      go_ret2
      have hcc := HC3.out.trans hc5 (fun j _ e => e)
      exact ⟨v6, rfl, ownsRow_mono ho6 hcc.size, hm6, hcc.trans hc6 (fun j _ e => e)⟩
theorem begin_any {L mb cb : Nat} {x : EV} (l r h : Int) (q : Bool) (w : World) (hM : MM L mb cb x [] w) (hx : x.Nm) (hl : 0 ≤ lastR x.kn 16 ∧ lastR x.kn 16 ≤ 1099511627776) : Calls Try.prog 17 #[.pointer (some ⟨mb, 0, none⟩), .int .i64 l, .int .i64 r, .int .i64 h, .bool q] w fun e w' => ∃ v, e = .returned (.tuple #[v, .int .i64 (begC x l r h)]) ∧ w'.ownsRow w.heap.size 56 6 v (begA x l r h q).length (flatA (begA x l r h q)) ∧ MM L mb cb (begX x l r h q) [] w' ∧ Chg (mown mb cb) w w' := by
  unfold begA begX
  cases d1 : cnts l r h
  · have hc : begC x l r h = 1 := by unfold begC; rw [if_pos d1]
    rw [hc, if_neg (by decide), if_neg (by decide)]
    exact beg_1 l r h q w hM hx hl d1
  · by_cases d2 : tgtE x x.n = e0
    · by_cases d3 : 1099511627776 < lastR x.kn 16 + 1
      · have hc : begC x l r h = 2 := by unfold begC; rw [if_neg (by rw [d1]; decide), if_neg (fun k => k d2), if_pos d3]
        rw [hc, if_neg (by decide), if_neg (by decide)]
        exact beg_3 l r h q w hM hx hl d1 d2 d3
      · have hc : begC x l r h = 0 := by unfold begC; rw [if_neg (by rw [d1]; decide), if_neg (fun k => k d2), if_neg d3]
        rw [hc, if_pos rfl, if_pos rfl]
        cases d4 : hasB (begY x q) l r h
        · rw [if_neg (by decide)]
          exact beg_5 l r h q w hM hx hl d1 d2 d3 d4
        · rw [if_pos rfl]
          exact beg_4 l r h q w hM hx hl d1 d2 d3 d4
    · have hc : begC x l r h = 62 := by unfold begC; rw [if_neg (by rw [d1]; decide), if_pos d2]
      rw [hc, if_neg (by decide), if_neg (by decide)]
      exact beg_2 l r h q w hM hx hl d1 d2
end Go.Proofs.Ytjojhhkbebddmaa
