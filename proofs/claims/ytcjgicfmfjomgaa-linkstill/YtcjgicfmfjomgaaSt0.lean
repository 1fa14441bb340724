import Derived.Test.YtcjgicfmfjomgaaLnd
import Derived.Test.YtcjgicfmfjomgaaAlv
namespace Go.Proofs.Ytcjgicfmfjomgaa
open Go.RowKit Go.PlainAid Go.MapKept
set_option linter.unusedVariables false
set_option linter.unusedSimpArgs false
def stB (wn : Nat) (n : Int) (Bx : List Dv) : LV := { fresh 3 5 wn n with box := Bx }
def stU (wn : Nat) (n : Int) (a : Int) (Bx : List Dv) : LV := { fresh 3 5 wn n with under := Bx, age := a }
theorem stB_out (wn : Nat) (n : Int) (Bx : List Dv) : (stB wn n Bx).calm.moved (stB wn n Bx).box.length = stU wn n 0 Bx := by
  simp [stB, stU, fresh, LV.calm, LV.moved]
theorem stB_tells (wn : Nat) (n : Int) (Bx : List Dv) : outTells (stB wn n Bx) = tell 3 5 0 1 (Bx.map Dv.s) := by
  simp [stB, fresh, outTells]
theorem fresh_out (wn : Nat) (n : Int) : (fresh 3 5 wn n).calm.moved (fresh 3 5 wn n).box.length = fresh 3 5 wn n := rfl
/-- An end of which nothing is under way yet, and what is wanted. -/
structure SQ (W : World) (lb cb mb : Nat) (wn : Nat) (n : Int) (K Bx : List Dv) (uv vd : Value) (wr : World) : Prop where
  sm : Bx.map Dv.s = K.map Dv.s
  lm : LM W.heap.size lb cb mb uv (stB wn n Bx) wr
  dj : ∀ k, vd.ownBlock = some k → ¬ lown lb cb mb uv (stB wn n Bx) k
  r : wr.ownsRow W.heap.size 41 1 vd K.length (K.map Dv.v)
  bl : Below W.heap.size W wr
theorem SQ.more {W : World} {lb cb mb wn : Nat} {n : Int} {K Bx : List Dv} {uv vd : Value} {w w' : World} (h : SQ W lb cb mb wn n K Bx uv vd w) (hb : Below w.heap.size w w') : SQ W lb cb mb wn n K Bx uv vd w' :=
  ⟨h.sm, h.lm.more hb, h.dj, ownsRow_same h.r (fun g e => hb.block g (ownsRow_lt h.r e).2), h.bl.trans (hb.mono h.bl.size)⟩
/-- Data is sent, and wanted. -/
theorem SQ.send {W : World} {lb cb mb wn : Nat} {n : Int} {K Bx : List Dv} {uv vd d : Value} {w w' : World} {o : Dv} (h : SQ W lb cb mb wn n K Bx uv vd w) (hm : LM W.heap.size lb cb mb uv ((stB wn n Bx).push ⟨d, o.s⟩) w') (hs : LStp lb cb mb uv uv (stB wn n Bx) ((stB wn n Bx).push ⟨d, o.s⟩) w w') (hK : K.length ≤ 100) (hone : ∃ ao k c, o.v = .slice ao k c) :
    ∃ v5 w5, (∀ ty, (Builtin.append_ #[36, 36] ty #[vd, .slice (some ⟨w'.heap.size, 0, none⟩) 1 1]).run Try.prog (w'.alloc (.cells #[o.v] 41)) = .ok v5 w5) ∧ SQ W lb cb mb wn n (K ++ [o]) (Bx ++ [⟨d, o.s⟩]) uv v5 w5 := by
  have hr : w'.ownsRow W.heap.size 41 1 vd K.length (K.map Dv.v) := ownsRow_same h.r (fun g e => hs.1.block g (ownsRow_lt h.r e).2 (h.dj g e))
  have hbl : Below W.heap.size W w' := h.bl.trans (hs.1.below h.bl.size (fun k hk => (h.lm.lt hk).1))
  have hdj : ∀ k, vd.ownBlock = some k → ¬ lown lb cb mb uv ((stB wn n Bx).push ⟨d, o.s⟩) k := fun k e hk => by
    rcases hs.2 k hk with q | q
    · exact h.dj k e q
    · have := (ownsRow_lt h.r e).2
      omega
  obtain ⟨v5, w5, h1, h2, h3⟩ := app_rows (w := w'.alloc (.cells #[o.v] 41)) 36 41 (.slice none 0 0) 1 24 Try.underlying36 (by kernel_rfl) rfl (by decide) (by decide) (hr.alloc _) (ao := some ⟨w'.heap.size, 0, none⟩) (m := 1) (cap := 1) (ys := [o.v]) rfl (fun h => by cases h) (fun ad e j u hu => by
    cases e
    have hB : Blk (w'.alloc (.cells #[o.v] 41)) w'.heap.size #[o.v] 41 := heap_alloc_new w' _
    rw [addr_add, Nat.zero_add, hB.cell j]
    simpa using hu) (fun u hu => by
      obtain ⟨ao, k, c, e⟩ := hone
      rw [List.mem_singleton.1 hu, e]; rfl) (by omega) (by rw [World.size_alloc]; exact Nat.le_succ_of_le hbl.size)
  have hgr := h3.ofAlloc
  refine ⟨v5, w5, h1, ⟨?_, ?_, ?_, ?_, ?_⟩⟩
  · simp [h.sm]
  · exact hm.keep hgr.chg (fun k hk e => hdj k e hk)
  · intro k e hk
    rcases hgr.at' k e with q | q
    · exact hdj k q hk
    · have := (hm.lt hk).2
      omega
  · rw [List.map_append, List.length_append]
    exact h2
  · exact hbl.trans (hgr.below (fun q hq => (ownsRow_lt hr hq).1) hbl.size)
/-- An end, its data and what is wanted. -/
structure SU (W : World) (lb cb mb : Nat) (x : LV) (K Bx : List Dv) (uv vd : Value) (wr : World) : Prop where
  sm : Bx.map Dv.s = K.map Dv.s
  lm : LM W.heap.size lb cb mb uv x wr
  dj : ∀ k, vd.ownBlock = some k → ¬ lown lb cb mb uv x k
  r : wr.ownsRow W.heap.size 41 1 vd K.length (K.map Dv.v)
  bl : Below W.heap.size W wr
theorem SQ.su {W : World} {lb cb mb wn : Nat} {n : Int} {K Bx : List Dv} {uv vd : Value} {w : World} (h : SQ W lb cb mb wn n K Bx uv vd w) : SU W lb cb mb (stB wn n Bx) K Bx uv vd w := ⟨h.sm, h.lm, h.dj, h.r, h.bl⟩
theorem SU.step {W : World} {lb cb mb : Nat} {x x1 : LV} {K Bx : List Dv} {uv uv1 vd : Value} {w w1 : World} (h : SU W lb cb mb x K Bx uv vd w) (hm : LM W.heap.size lb cb mb uv1 x1 w1) (hs : LStp lb cb mb uv uv1 x x1 w w1) : SU W lb cb mb x1 K Bx uv1 vd w1 := by
  refine ⟨h.sm, hm, fun k e hk => ?_, ownsRow_same h.r (fun g e => hs.1.block g (ownsRow_lt h.r e).2 (h.dj g e)), h.bl.trans (hs.1.below h.bl.size (fun k hk => (h.lm.lt hk).1))⟩
  rcases hs.2 k hk with q | q
  · exact h.dj k e q
  · have := (ownsRow_lt h.r e).2
    omega
theorem SU.more {W : World} {lb cb mb : Nat} {x : LV} {K Bx : List Dv} {uv vd : Value} {w w' : World} (h : SU W lb cb mb x K Bx uv vd w) (hb : Below w.heap.size w w') : SU W lb cb mb x K Bx uv vd w' :=
  ⟨h.sm, h.lm.more hb, h.dj, ownsRow_same h.r (fun g e => hb.block g (ownsRow_lt h.r e).2), h.bl.trans (hb.mono h.bl.size)⟩
theorem tell_at (a b c : Int) : ∀ (q : Int) (ss : List (List UInt8)) (k : Nat) (s : List UInt8), ss[k]? = some s → (tell a b c q ss)[k]? = some (a, b, q + (k : Int), c, s)
  | q, [], k, s, h => by simp at h
  | q, s0 :: ss, 0, s, h => by
    simp only [List.getElem?_cons_zero, Option.some.injEq] at h
    subst h
    simp [tell]
  | q, s0 :: ss, k + 1, s, h => by
    simp only [List.getElem?_cons_succ] at h
    simp only [tell, List.getElem?_cons_succ]
    rw [tell_at a b c (q + 1) ss k s h]
    congr 4
    simp
    omega
def stD (wn : Nat) (n : Int) (d : Bool) (a : Int) (Bx : List Dv) : LV := { fresh 3 5 wn n with under := Bx, age := a, due := d }
theorem stU_is (wn : Nat) (n a : Int) (Bx : List Dv) : stU wn n a Bx = stD wn n false a Bx := rfl
theorem stD_out (wn : Nat) (n a : Int) (d : Bool) (Bx : List Dv) (ha : Bx.length = 0 → a = 0) : (stD wn n d a Bx).calm.moved (stD wn n d a Bx).box.length = stU wn n a Bx := by
  by_cases h : Bx.length = 0
  · have := ha h
    subst this
    simp [stD, stU, fresh, LV.calm, LV.moved]
  · simp [stD, stU, fresh, LV.calm, LV.moved]
    intro e
    exact absurd (by rw [e]; rfl) h
theorem stD_tells (wn : Nat) (n a : Int) (d : Bool) (Bx : List Dv) : outTells (stD wn n d a Bx) = if d = true then tell 3 5 0 1 (Bx.map Dv.s) else [] := by
  cases d <;> simp [stD, fresh, outTells, tell]
theorem stU_tick (wn : Nat) (n i : Nat) (Bx : List Dv) (a : Int) (hn : 1 ≤ n) (hi : 1 ≤ i) (h0 : Bx.length = 0 → a = 0) (h1 : 0 < Bx.length → a = (((i - 1) % n : Nat) : Int)) :
    (stU wn n a Bx).tick = stD wn n (decide (0 < Bx.length ∧ i % n = 0)) (if Bx.length = 0 then 0 else ((i % n : Nat) : Int)) Bx := by
  by_cases h : Bx.length = 0
  · have := h0 h
    subst this
    simp [LV.tick, stU, stD, fresh, h]
  · have ha := h1 (by omega)
    subst ha
    have hm : (i - 1) % n < n := Nat.mod_lt _ (by omega)
    have hd : i % n = if (i - 1) % n + 1 = n then 0 else (i - 1) % n + 1 := by
      obtain ⟨j, rfl⟩ : ∃ j, i = j + 1 := ⟨i - 1, by omega⟩
      rw [Nat.add_sub_cancel] at hm ⊢
      rw [Nat.add_mod]
      by_cases h2 : j % n + 1 = n
      · rw [if_pos h2]
        by_cases h3 : n = 1
        · subst h3; omega
        · rw [Nat.mod_eq_of_lt (show 1 < n by omega), h2, Nat.mod_self]
      · rw [if_neg h2, Nat.mod_eq_of_lt (show 1 < n by omega), Nat.mod_eq_of_lt (by omega)]
    have e1 : (stU wn n (((i - 1) % n : Nat) : Int) Bx).tick = if ((((i - 1) % n : Nat) : Int) + 1 = (n : Int)) then stD wn n true 0 Bx else stD wn n false ((((i - 1) % n : Nat) : Int) + 1) Bx := by
      show (if Bx.length = 0 then _ else _) = _
      rw [if_neg h]
      rfl
    rw [e1, if_neg h]
    by_cases h2 : (i - 1) % n + 1 = n
    · rw [if_pos h2] at hd
      rw [if_pos (by omega), hd, decide_eq_true ⟨by omega, rfl⟩]
      rfl
    · rw [if_neg h2] at hd
      rw [if_neg (by omega), hd, decide_eq_false (by omega)]
      rfl
end Go.Proofs.Ytcjgicfmfjomgaa
