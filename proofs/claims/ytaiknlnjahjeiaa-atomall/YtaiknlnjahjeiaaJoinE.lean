import Derived.Test.YtaiknlnjahjeiaaJoinD
import Derived.Test.YtaiknlnjahjeiaaArgs
import Derived.Test.YtaiknlnjahjeiaaJoinC
import Derived.Deep.Cut
import Derived.Deep.CutBlock
import Derived.Test.YtaiknlnjahjeiaaJoinA
namespace Go.Proofs.Ytaiknlnjahjeiaa
open Go.RowKit Go.PlainAid Go.MapKept
set_option linter.unusedVariables false
set_option linter.unusedSimpArgs false
def wx (x m : Int) : Int := (if x < 0 then -(x + 1) else x) % m
theorem wx_in (x m : Int) (h : 0 < m) : 0 ≤ wx x m ∧ wx x m < m := ⟨Int.emod_nonneg _ (by omega), Int.emod_lt_of_pos _ h⟩
set_option maxRecDepth 100000 in
set_option maxHeartbeats 1600000 in
theorem within_any (x lo hi : Int) (W : World) (h1 : -9223372036854775808 ≤ x) (h2 : x ≤ 9223372036854775807) (h3 : 0 ≤ lo) (h4 : lo ≤ hi) (h5 : hi ≤ 4611686018427387904) :
    Calls Try.prog 11 #[.int .i64 x, .int .i64 lo, .int .i64 hi] W fun e w' => e = .returned (.int .i64 (lo + wx x (hi - lo + 1))) ∧ w' = W := by
  have hw1 : IntKind.i64.wrap (hi - lo) = hi - lo := by rw [IntKind.wrap_i64]; omega
  have hw2 : IntKind.i64.wrap (hi - lo + 1) = hi - lo + 1 := by rw [IntKind.wrap_i64]; omega
  have hin := wx_in x (hi - lo + 1) (by omega)
  have hnz : hi - lo + 1 ≠ 0 := by omega
  have hnzb : (hi - lo + 1 == 0) = false := by simpa using hnz
  by_cases hx : x < 0
  · have hw4 : IntKind.i64.wrap (x + 1) = x + 1 := by rw [IntKind.wrap_i64]; omega
    have hw5 : IntKind.i64.wrap (-(x + 1)) = -(x + 1) := by rw [IntKind.wrap_i64]; omega
    have e9 : -((x + 1).tmod (hi - lo + 1)) = wx x (hi - lo + 1) := by rw [← Int.neg_tmod]; unfold wx; rw [if_pos hx, Int.tmod_eq_emod_of_nonneg (by omega)]
    have HE9 : Hid _ := e9
    clear hin e9
    go_enter Try.func11, Try.ntmps11
    go_wp2_with fail
    go_ret
    refine ⟨ret_i64 ?_, rfl⟩
    rw [HE9.out]
    have := wx_in x (hi - lo + 1) (by omega)
    unfold wrap64
    omega
  · have e9 : x % (hi - lo + 1) = wx x (hi - lo + 1) := by unfold wx; rw [if_neg hx]
    have HE9 : Hid _ := e9
    clear hin e9
    go_enter Try.func11, Try.ntmps11
    go_wp2_with fail
    go_ret
    refine ⟨ret_i64 ?_, rfl⟩
    rw [HE9.out]
    have := wx_in x (hi - lo + 1) (by omega)
    unfold wrap64
    omega
/-- 1 .. hi of a number. -/
theorem within_1 (x hi : Int) (W : World) (h1 : -9223372036854775808 ≤ x) (h2 : x ≤ 9223372036854775807) (h4 : 1 ≤ hi) (h5 : hi ≤ 4611686018427387904) :
    Calls Try.prog 11 #[.int .i64 x, .int .i64 1, .int .i64 hi] W fun e w' => ∃ y, e = .returned (.int .i64 y) ∧ 1 ≤ y ∧ y ≤ hi ∧ w' = W := by
  refine (within_any x 1 hi W h1 h2 (by decide) h4 h5).mono ?_
  rintro e w' ⟨rfl, rfl⟩
  have := wx_in x (hi - 1 + 1) (by omega)
  exact ⟨_, rfl, by omega, by omega, rfl⟩
theorem within_02 (x : Int) (W : World) (h1 : -9223372036854775808 ≤ x) (h2 : x ≤ 9223372036854775807) :
    Calls Try.prog 11 #[.int .i64 x, .int .i64 0, .int .i64 2] W fun e w' => ∃ y : Nat, e = .returned (.int .i64 y) ∧ y ≤ 2 ∧ w' = W := by
  refine (within_any x 0 2 W h1 h2 (by decide) (by decide) (by decide)).mono ?_
  rintro e w' ⟨rfl, rfl⟩
  have := wx_in x (2 - 0 + 1) (by decide)
  refine ⟨(0 + wx x (2 - 0 + 1)).toNat, ?_, by omega, rfl⟩
  rw [show (((0 + wx x (2 - 0 + 1)).toNat : Nat) : Int) = 0 + wx x (2 - 0 + 1) from by omega]
def sgn (k : Int) : Int := if k = 5 then 0 else 1
set_option maxRecDepth 100000 in
theorem sign_any (k : Int) (W : World) : Calls Try.prog 14 #[.int .i64 k] W fun e w' => e = .returned (.int .i64 (sgn k)) ∧ w' = W := by
  by_cases h : k = 5
  · subst h
    go_enter Try.func14, Try.ntmps14
    go_wp2
    go_ret
    exact ⟨rfl, rfl⟩
  · have hb : (k == 5) = false := by simpa using h
    have HS : Hid (sgn k = 1) := show _ = _ from by unfold sgn; rw [if_neg h]
    clear h
    go_enter Try.func14, Try.ntmps14
    go_wp2
    go_ret
    exact ⟨by rw [HS.out]; rfl, rfl⟩
/-- The hold stands. -/
def Holds (q a : Int) (L : List (List UInt8 × Ct)) : Prop := ∃ c, Gm.look [107] L = some c ∧ c.Ok ∧ Gm.look q c.H = some a
theorem opB_end {k q : Int} (hk : k = 5 ∨ k = 6 ∨ k = 12) (hq : 1 ≤ q) : opB k q 0 = true := by
  unfold opB
  rw [if_neg (show ¬ k = 1 by omega), if_neg (show ¬ (k = 2 ∨ k = 3 ∨ k = 10) by omega), if_neg (show ¬ k = 4 by omega), if_pos hk]
  simp [hq]
theorem good_k : nameB [107] = true := by kernel_rfl
/-- The end of a hold that stands, and what is left. -/
theorem holds_end {q a : Int} {L : List (List UInt8 × Ct)} {c : Ct} (h1 : Gm.look [107] L = some c) (h3 : Gm.look q c.H = some a) (ha : a ≠ 0) (hq : 1 ≤ q) (k : Int) (hk : k = 5 ∨ k = 6 ∨ k = 12) (h0 : Int) :
    mapO k q 0 h0 [107] L = ((if k = 12 then 0 else a, 0), (c.lim, if k = 5 then c.val else c.val + a, c.held - a, Gm.putM q 0 c.H)) := by
  unfold mapO
  rw [if_neg (by rw [good_k, opB_end hk hq]; decide), h1]
  simp only [if_neg (show ¬ k = 1 by omega)]
  unfold ctO
  rw [if_neg (show ¬ k = 2 by omega), if_neg (show ¬ k = 3 by omega), if_neg (show ¬ k = 4 by omega), if_pos hk]
  unfold endO
  have e : amt q c = a := by unfold amt; rw [h3]; rfl
  rw [e, if_neg ha]
theorem gone_end {q : Int} {L : List (List UInt8 × Ct)} {c : Ct} (h1 : Gm.look [107] L = some c) (h3 : Gm.look q c.H = some 0) (hq : 1 ≤ q) (k : Int) (hk : k = 5 ∨ k = 6 ∨ k = 12) (h0 : Int) :
    (mapO k q 0 h0 [107] L).1 = (0, 70) := by
  unfold mapO
  rw [if_neg (by rw [good_k, opB_end hk hq]; decide), h1]
  simp only [if_neg (show ¬ k = 1 by omega)]
  unfold ctO
  rw [if_neg (show ¬ k = 2 by omega), if_neg (show ¬ k = 3 by omega), if_neg (show ¬ k = 4 by omega), if_pos hk]
  unfold endO
  have e : amt q c = 0 := by unfold amt; rw [h3]; rfl
  rw [if_pos e]
theorem gone_hold {q : Int} {L : List (List UInt8 × Ct)} {c : Ct} (h1 : Gm.look [107] L = some c) (h3 : Gm.look q c.H = some 0) :
    (mapO 4 1 1 q [107] L).1.2 = if c.val < 1 then 60 else 1 := by
  unfold mapO
  rw [if_neg (by rw [good_k]; decide), h1]
  simp only [if_neg (show ¬ (4 : Int) = 1 by decide)]
  unfold ctO
  rw [if_neg (show ¬ (4 : Int) = 2 by decide), if_neg (show ¬ (4 : Int) = 3 by decide), if_pos rfl]
  unfold holdO
  by_cases hv : c.val < 1
  · rw [if_pos hv, if_pos hv]
  · rw [if_neg hv, if_neg hv, if_pos (Or.inr (by rw [h3]; rfl))]
end Go.Proofs.Ytaiknlnjahjeiaa
namespace Go.Proofs.Ytaiknlnjahjeiaa
open Go.RowKit Go.PlainAid Go.MapKept
set_option linter.unusedVariables false
set_option linter.unusedSimpArgs false
theorem cell_below {w w' : World} {b o : Nat} {v : Value} (hb : Below w.heap.size w w') (h : w.cell? ⟨b, o, none⟩ = some v) : w'.cell? ⟨b, o, none⟩ = some v := (hb.cell (p := ⟨b, o, none⟩) (World.block_lt_of_cell? w _ h)).trans h
theorem RowAt.act {W : World} {b off : Nat} {x : AA} (h : RowAt W b off x.row) : W.cell? ⟨b, off, none⟩ = some (.int .i64 x.o.k) ∧ W.cell? ⟨b, off + 1, none⟩ = some (.string ⟨x.o.n.toArray⟩) ∧ W.cell? ⟨b, off + 2, none⟩ = some (.int .i64 x.o.a) ∧ W.cell? ⟨b, off + 3, none⟩ = some (.int .i64 x.o.b) ∧ W.cell? ⟨b, off + 4, none⟩ = some (.int .i64 x.q) :=
  ⟨h 0 _ rfl, h 1 _ rfl, h 2 _ rfl, h 3 _ rfl, h 4 _ rfl⟩
theorem mk1 {l v : Int} (h1 : 1 ≤ l) (h2 : l ≤ 1099511627776) (h3 : 1 ≤ v) (h4 : v ≤ l) : mapO 1 l v 0 [107] [] = ((0, 0), (l, v, 0, [])) := by
  unfold mapO
  have hb : opB 1 l v = true := by
    unfold opB
    rw [if_pos rfl]
    simp [amtB, valB]
    omega
  rw [if_neg (by rw [good_k, hb]; decide)]
  show (if (1 : Int) = 1 then createO l v else ((0, 100), (0, 0, 0, []))) = _
  rw [if_pos rfl]
  unfold createO
  rw [if_neg (by omega)]
theorem mk2 {l v a q : Int} (h : Nat) (h1 : 1 ≤ a) (h2 : a ≤ v) (h3 : v ≤ 1099511627776) (hq : 1 ≤ q) : mapO 4 a 1 q [107] [([107], ⟨[107], l, v, 0, some h, []⟩)] = ((q, 0), (l, v - a, 0 + a, [(q, a)])) := by
  unfold mapO
  have hb : opB 4 a 1 = true := by
    unfold opB
    rw [if_neg (by decide), if_neg (by decide), if_pos rfl]
    simp [amtB]
    omega
  rw [if_neg (by rw [good_k, hb]; decide)]
  show (if (4 : Int) = 1 then ((0, 101), (0, 0, 0, [])) else ctO 4 a 1 q ⟨[107], l, v, 0, some h, []⟩) = _
  rw [if_neg (by decide)]
  unfold ctO
  rw [if_neg (by decide), if_neg (by decide), if_pos rfl]
  unfold holdO
  rw [if_neg (by show ¬ v < a; omega), if_neg (by rintro (h | h); omega; simp [Gm.look] at h)]
  rfl
theorem doL_no {R : Out} {n : List UInt8} {hb' : Nat} {L : List (List UInt8 × Ct)} (h : R.1.2 ≠ 0) : doL R n hb' L = L := by unfold doL; rw [if_neg h]
end Go.Proofs.Ytaiknlnjahjeiaa
namespace Go.Proofs.Ytaiknlnjahjeiaa
open Go.RowKit Go.PlainAid Go.MapKept
set_option linter.unusedVariables false
set_option linter.unusedSimpArgs false
/-- What Peek tells. -/
structure Lk where
  val : Int
  held : Int
  lim : Int
  is : Bool
def Lk.row (x : Lk) : List Value := [.int .i64 x.val, .int .i64 x.held, .int .i64 x.lim, .bool x.is]
def Lk.cs (x : Lk) : Array Value := #[.int .i64 x.val, .int .i64 x.held, .int .i64 x.lim, .bool x.is]
def lkOf (L : List (List UInt8 × Ct)) (n : List UInt8) : Lk := ⟨(ctOf n L).val, (ctOf n L).held, (ctOf n L).lim, isOf n L⟩
def flatL (ls : List Lk) : List Value := ls.flatMap Lk.row
theorem flatL_app (a : List Lk) (b : Lk) : flatL (a ++ [b]) = flatL a ++ b.row := by simp [flatL]
theorem flatL_at : ∀ {ls : List Lk} {q : Nat} {x : Lk} (j : Nat), ls[q]? = some x → j < 4 → (flatL ls)[q * 4 + j]? = x.row[j]?
  | [], q, x, j, h, _ => by simp at h
  | y :: t, 0, x, j, h, hj => by
    simp at h
    subst h
    show (y.row ++ flatL t)[0 * 4 + j]? = _
    rw [List.getElem?_append_left (by simp [Lk.row]; omega)]
    simp
  | y :: t, q + 1, x, j, h, hj => by
    have ih := flatL_at (ls := t) (q := q) (x := x) j (by simpa using h) hj
    show (y.row ++ flatL t)[(q + 1) * 4 + j]? = _
    rw [List.getElem?_append_right (by simp [Lk.row]; omega), ← ih]
    congr 1
    simp [Lk.row]
    omega
theorem info45 : (Try.prog.info? 45).map (fun i => (i.zero, i.size, i.bytes)) = some (some (.agg #[.int .i64 0, .int .i64 0, .int .i64 0, .bool false]), 4, 32) := by kernel_rfl
def Sv (n : List UInt8) : Value := .string ⟨n.toArray⟩
/-- What an owned row holds, cell by cell. -/
theorem own_at {w : World} {base e s n : Nat} {v : Value} {xs : List Value} (h : w.ownsRow base e s v n xs) (h0 : 0 < n) : ∃ g cap, v = .slice (some ⟨g, 0, none⟩) n cap ∧ n ≤ cap ∧ base ≤ g ∧ g < w.heap.size ∧ ∀ j x, xs[j]? = some x → w.cell? ⟨g, j, none⟩ = some x := by
  rcases h.2 with ⟨rfl, rfl⟩ | ⟨g, cap, cur, rfl, hb, hg, hc, hm, hcs, htake⟩
  · omega
  · refine ⟨g, cap, rfl, hc, (ownsRow_lt h rfl).1, (ownsRow_lt h rfl).2, fun j x hx => ?_⟩
    have := h.cells (g := g) rfl j x hx
    rwa [addr_add, Nat.zero_add] at this
end Go.Proofs.Ytaiknlnjahjeiaa
namespace Go.Proofs.Ytaiknlnjahjeiaa
open Go.RowKit Go.PlainAid Go.MapKept
set_option linter.unusedVariables false
set_option linter.unusedSimpArgs false
theorem neq45 (a b c : Int) (d : Bool) (w : World) : (binOp .neq 45 (.agg #[.int .i64 a, .int .i64 b, .int .i64 c, .bool d]) (.agg #[.int .i64 a, .int .i64 b, .int .i64 c, .bool d])).run Try.prog w = .ok (.bool false) w := by
  simp [go_sem]
end Go.Proofs.Ytaiknlnjahjeiaa
namespace Go.Proofs.Ytaiknlnjahjeiaa
open Go.RowKit Go.PlainAid Go.MapKept
set_option linter.unusedVariables false
set_option linter.unusedSimpArgs false
end Go.Proofs.Ytaiknlnjahjeiaa
namespace Go.Proofs.Ytaiknlnjahjeiaa
open Go.RowKit Go.PlainAid Go.MapKept
set_option linter.unusedVariables false
set_option linter.unusedSimpArgs false
theorem lk_some {L : List (List UInt8 × Ct)} {n : List UInt8} {c : Ct} (h : Gm.look n L = some c) : lkOf L n = ⟨c.val, c.held, c.lim, true⟩ := by unfold lkOf ctOf isOf; rw [h]; rfl
theorem lk_none {L : List (List UInt8 × Ct)} {n : List UInt8} (h : Gm.look n L = none) : lkOf L n = ⟨0, 0, 0, false⟩ := by unfold lkOf ctOf isOf; rw [h]; rfl
theorem lk_put (L : List (List UInt8 × Ct)) (n : List UInt8) (c : Ct) : lkOf (Gm.putM n c L) n = ⟨c.val, c.held, c.lim, true⟩ := lk_some (by rw [look_put, if_pos rfl])
theorem lk_other {L : List (List UInt8 × Ct)} {n m : List UInt8} (R : Out) (hb : Nat) (h : m ≠ n) : lkOf (doL R n hb L) m = lkOf L m := by
  unfold doL
  split
  · unfold lkOf ctOf isOf
    rw [look_put, if_neg h]
  · rfl
theorem lk_ok {L : List (List UInt8 × Ct)} (hL : ∀ p ∈ L, p.2.Ok) (n : List UInt8) : 0 ≤ (lkOf L n).val ∧ 0 ≤ (lkOf L n).held ∧ (lkOf L n).val + (lkOf L n).held ≤ (lkOf L n).lim ∧ (lkOf L n).lim ≤ 1099511627776 := by
  cases h : Gm.look n L with
  | none => rw [lk_none h]; decide
  | some c =>
    rw [lk_some h]
    have hc := hL _ (look_mem h)
    exact ⟨hc.val, hc.heldnn, hc.sum, hc.lim.2⟩
theorem ctO_err0 {k A B q : Int} {c : Ct} (h : (ctO k A B q c).1.2 ≠ 0) : (ctO k A B q c).1.1 = 0 := by
  unfold ctO at h ⊢
  split
  · unfold incO at h ⊢; split <;> rfl
  rename_i c2
  rw [if_neg c2] at h
  split
  · unfold decO at h ⊢; split <;> rfl
  rename_i c3
  rw [if_neg c3] at h
  split
  · rename_i c4
    rw [if_pos c4] at h
    unfold holdO at h ⊢
    split
    · rfl
    · rename_i h1
      rw [if_neg h1] at h
      split
      · rfl
      · rename_i h2
        rw [if_neg h2] at h
        exact absurd rfl h
  rename_i c4
  rw [if_neg c4] at h
  split
  · rename_i c5
    rw [if_pos c5] at h
    unfold endO at h ⊢
    split
    · rfl
    · rename_i h1
      rw [if_neg h1] at h
      exact absurd rfl h
  rename_i c5
  rw [if_neg c5] at h
  split
  · rename_i c8
    rw [if_pos c8] at h
    unfold takeO at h ⊢
    split
    · rfl
    · rename_i h1
      rw [if_neg h1] at h
      split
      · rfl
      · rename_i h2
        rw [if_neg h2] at h
        exact absurd rfl h
  rename_i c8
  rw [if_neg c8] at h
  split
  · rename_i c9
    rw [if_pos c9] at h
    unfold resetO at h ⊢
    split
    · rfl
    · rename_i h1
      rw [if_neg h1] at h
      exact absurd rfl h
  rename_i c9
  rw [if_neg c9] at h
  split
  · rename_i c10
    rw [if_pos c10] at h
    unfold recapO at h ⊢
    split
    · rfl
    · rename_i h1
      rw [if_neg h1] at h
      exact absurd rfl h
  rename_i c10
  rw [if_neg c10] at h
  exact absurd rfl h
theorem mapO_err0 {k A B q : Int} {n : List UInt8} {L : List (List UInt8 × Ct)} (h : (mapO k A B q n L).1.2 ≠ 0) : (mapO k A B q n L).1.1 = 0 := by
  unfold mapO at h ⊢
  by_cases hr : (nameB n && opB k A B) = false
  · rw [if_pos hr]
  · rw [if_neg hr] at h ⊢
    cases hl : Gm.look n L with
    | none =>
      rw [hl] at h
      by_cases hk : k = 1
      · simp only [if_pos hk] at h ⊢
        unfold createO
        split <;> rfl
      · simp only [if_neg hk]
    | some c =>
      rw [hl] at h
      by_cases hk : k = 1
      · simp only [if_pos hk]
      · simp only [if_neg hk] at h ⊢
        exact ctO_err0 h
theorem AX.do2 {w0 w : World} {ab mb : Nat} {L : List (List UInt8 × Ct)} (h : AX w0 ab mb L w) (k A B q : Int) (n : List UInt8) (hn : n.length ≤ 140737488355328) :
    Calls Try.prog 12 #[.pointer (some ⟨ab, 0, none⟩), .agg #[.int .i64 k, .string ⟨n.toArray⟩, .int .i64 A, .int .i64 B], .int .i64 q] w fun e w' => ∃ hb', e = .returned (.tuple #[.int .i64 (mapO k A B q n L).1.1, .int .i64 (mapO k A B q n L).1.2]) ∧ AX w0 ab mb (doL (mapO k A B q n L) n hb' L) w' ∧ ∀ b C T, Blk w b C T → Blk w' b C T := by
  refine (do_any k A B q n w h.am hn).mono ?_
  rintro e w' ⟨hb', rfl, hA, hh, hc⟩
  refine ⟨hb', rfl, ⟨hA, ⟨h.lo.1, h.lo.2.1, fun p hp x hx => ?_⟩, h.bel.trans (hc.below h.bel.size (fun k hk => ?_))⟩, fun b C T hB => hc.blk hB (fun e => ?_)⟩
  · unfold doL at hp
    by_cases hr : (mapO k A B q n L).1.2 = 0
    · rw [if_pos hr] at hp
      rcases putM_in h.am.kd hp with rfl | ⟨hp, _⟩
      · have hx : hb' = x := by simpa using hx
        subst hx
        rcases hh hr with ⟨p, hp, hpb⟩ | hh
        · exact h.lo.2.2 p hp _ hpb
        · exact Nat.le_trans h.bel.size hh
      · exact h.lo.2.2 p hp x hx
    · rw [if_neg hr] at hp
      exact h.lo.2.2 p hp x hx
  · rcases hk with rfl | ⟨p, hp, hpb⟩
    · exact h.lo.2.1
    · exact h.lo.2.2 p hp _ hpb
  · rcases e with rfl | ⟨p, hp, hpb⟩
    · exact h.am.map.ne_b hB rfl
    · obtain ⟨_, _, x, c1, d1, _⟩ := h.am.ct p hp
      rw [hpb] at c1
      cases c1
      exact d1.ne_b hB rfl
theorem own_keep {w w' : World} {base e s n : Nat} {v : Value} {xs : List Value} (h : w.ownsRow base e s v n xs) (hk : ∀ b C T, Blk w b C T → Blk w' b C T) : w'.ownsRow base e s v n xs :=
  ownsRow_same h (fun g hg => by
    obtain ⟨c, hc⟩ := ownsRow_type h hg
    exact (hk g c e hc).trans (Eq.symm hc))
end Go.Proofs.Ytaiknlnjahjeiaa
