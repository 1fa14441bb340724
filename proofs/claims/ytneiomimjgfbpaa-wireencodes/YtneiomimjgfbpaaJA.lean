import Derived.Test.YtneiomimjgfbpaaJD
import Derived.Test.YtneiomimjgfbpaaJR
namespace Go.Proofs.Ytneiomimjgfbpaa
open Go.RowKit Go.PlainAid
set_option maxRecDepth 100000 in
set_option maxHeartbeats 800000 in
theorem alike_any (ao bo : Option Addr) (n m ca cb : Nat) (xs ys : List UInt8) (w : World) (hx : xs.length = n) (hy : ys.length = m) (hfx : From w ao xs) (hfy : From w bo ys) :
    Calls Try.prog 15 #[.slice ao n ca, .slice bo m cb] w (fun e w' => e = .returned (.bool (decide (xs = ys))) ∧ w' = w) := by
  have c1 := conv_run w ao n ca xs hx hfx
  have c2 := conv_run w bo m cb ys hy hfy
  go_enter Try.func15, Try.ntmps15
  go_wp2
  go_ret
  refine ⟨ret_bool ?_, rfl⟩
  by_cases h : xs = ys <;> simp [h]
end Go.Proofs.Ytneiomimjgfbpaa
namespace Go.Proofs.Ytneiomimjgfbpaa
open Go.RowKit Go.PlainAid
end Go.Proofs.Ytneiomimjgfbpaa
namespace Go.Proofs.Ytneiomimjgfbpaa
open Go.RowKit Go.PlainAid
set_option linter.unusedSimpArgs false
def viewB (x y : View) : Bool := x.name == y.name && x.cap == y.cap && x.recaps == y.recaps && x.version == y.version && x.down == y.down && x.up == y.up && x.held == y.held
theorem viewB_iff (x y : View) : viewB x y = true ↔ x = y := by
  cases x; cases y
  simp [viewB, and_assoc]
def viewsB : List View → List View → Bool
  | [], [] => true
  | x :: xs, y :: ys => viewB x y && viewsB xs ys
  | _, _ => false
theorem viewsB_iff : ∀ (xs ys : List View), viewsB xs ys = true ↔ xs = ys
  | [], [] => by simp [viewsB]
  | [], _ :: _ => by simp [viewsB]
  | _ :: _, [] => by simp [viewsB]
  | x :: xs, y :: ys => by simp [viewsB, viewB_iff, viewsB_iff xs ys]
structure Drewn (w w' : World) : Prop where
  heap : w'.heap = w.heap
  below : Below w.heap.size w w'
theorem Drewn.refl (w : World) : Drewn w w := ⟨rfl, Below.refl _ _⟩
theorem Drewn.drewN {w w' : World} (h : Drewn w w') (q : Nat) : Drewn w (w'.drewN q) := ⟨h.heap, h.below.os, h.below.tape, h.below.output, h.below.size, h.below.block⟩
theorem neq_view (xn yn : List UInt8) (xc xr xv xd xu xh yc yr yv yd yu yh : Int) (w : World) : Sem.run Try.prog (binOp .neq 106 (.agg #[.string ⟨xn.toArray⟩, .int .i64 xc, .int .i64 xr, .int .i64 xv, .int .i64 xd, .int .i64 xu, .int .i64 xh]) (.agg #[.string ⟨yn.toArray⟩, .int .i64 yc, .int .i64 yr, .int .i64 yv, .int .i64 yd, .int .i64 yu, .int .i64 yh])) w
    = .ok (.bool (!viewB ⟨xn, xc, xr, xv, xd, xu, xh⟩ ⟨yn, yc, yr, yv, yd, yu, yh⟩)) w := by
  simp [go_sem, viewB]
  by_cases h : xn = yn
  · subst h
    simp only [if_true, beq_self_eq_true, Bool.not_true, Bool.false_or]
    by_cases h : xc = yc
    · subst h
      simp only [if_true, beq_self_eq_true, Bool.not_true, Bool.false_or]
      by_cases h : xr = yr
      · subst h
        simp only [if_true, beq_self_eq_true, Bool.not_true, Bool.false_or]
        by_cases h : xv = yv
        · subst h
          simp only [if_true, beq_self_eq_true, Bool.not_true, Bool.false_or]
          by_cases h : xd = yd
          · subst h
            simp only [if_true, beq_self_eq_true, Bool.not_true, Bool.false_or]
            by_cases h : xu = yu
            · subst h
              simp only [if_true, beq_self_eq_true, Bool.not_true, Bool.false_or]
              by_cases h : xh = yh
              · subst h
                simp only [if_true, beq_self_eq_true, Bool.not_true, Bool.false_or]
              · simp [h]
            · simp [h]
          · simp [h]
        · simp [h]
      · simp [h]
    · simp [h]
  · simp [h]
theorem vcells {w : World} {ao : Option Addr} {xs : List View} (h : VFrom w ao xs) {q : Nat} {x : View} (hq : xs[q]? = some x) {wr : World} (hD : Drewn w wr) :
    ∃ vb vo, ao = some ⟨vb, vo, none⟩ ∧ wr.cell? ⟨vb, vo + q * 7, none⟩ = some (.string ⟨x.name.toArray⟩) ∧ wr.cell? ⟨vb, vo + q * 7 + 1, none⟩ = some (.int .i64 x.cap) ∧ wr.cell? ⟨vb, vo + q * 7 + 2, none⟩ = some (.int .i64 x.recaps) ∧ wr.cell? ⟨vb, vo + q * 7 + 3, none⟩ = some (.int .i64 x.version)
      ∧ wr.cell? ⟨vb, vo + q * 7 + 4, none⟩ = some (.int .i64 x.down) ∧ wr.cell? ⟨vb, vo + q * 7 + 5, none⟩ = some (.int .i64 x.up) ∧ wr.cell? ⟨vb, vo + q * 7 + 6, none⟩ = some (.int .i64 x.held) := by
  obtain ⟨vb, vo, e, hc⟩ := h q x hq
  have k : ∀ a : Addr, wr.cell? a = w.cell? a := fun a => World.cell?_of_block (w := w) (by rw [hD.heap])
  refine ⟨vb, vo, e, ?_, ?_, ?_, ?_, ?_, ?_, ?_⟩
  · rw [k]; exact hc 0 _ rfl
  · rw [k]; exact hc 1 _ rfl
  · rw [k]; exact hc 2 _ rfl
  · rw [k]; exact hc 3 _ rfl
  · rw [k]; exact hc 4 _ rfl
  · rw [k]; exact hc 5 _ rfl
  · rw [k]; exact hc 6 _ rfl
set_option maxRecDepth 100000 in
set_option maxHeartbeats 1600000 in
theorem sameViews_any (ao bo : Option Addr) (n m ca cb : Nat) (xs ys : List View) (w : World) (hxn : xs.length = n) (hym : ys.length = m) (hx : VFrom w ao xs) (hy : VFrom w bo ys) (hnb : n ≤ 140000000000000) :
    Calls Try.prog 34 #[.slice ao n ca, .slice bo m cb] w (fun e w' => e = .returned (.bool (viewsB xs ys)) ∧ Drewn w w') := by
  by_cases hl : n = m
  · subst hl
    have hne : (((n : Nat) : Int) != ((n : Nat) : Int)) = false := by simp
    go_enter Try.func34, Try.ntmps34
    go_wp2
    go_loopw [5] (fun i wr => ∃ q : Nat, q ≤ n ∧ i = .int .i64 q ∧ Drewn w wr ∧ ∀ j, j < q → xs[j]? = ys[j]?) (fun i _ => n - (intOf i).toNat)
    case atStart => exact ⟨0, by omega, rfl, Drewn.refl _, fun j hj => by omega⟩
    case round =>
      obtain ⟨q, hq, rfl, hD, hall⟩ := hrel
      by_cases hlt : q < n
      · obtain ⟨x, hxq⟩ : ∃ x, xs[q]? = some x := ⟨_, List.getElem?_eq_getElem (by omega)⟩
        obtain ⟨y, hyq⟩ : ∃ y, ys[q]? = some y := ⟨_, List.getElem?_eq_getElem (by omega)⟩
        obtain ⟨vb, vo, rfl, x0, x1, x2, x3, x4, x5, x6⟩ := vcells hx hxq hD
        obtain ⟨ub, uo, rfl, y0, y1, y2, y3, y4, y5, y6⟩ := vcells hy hyq hD
        have H : Hid _ := And.intro hxq (And.intro hyq (And.intro hall (And.intro hx hy)))
        clear hxq hyq hall hx hy
        obtain ⟨xn, xc, xr, xv, xd, xu, xh⟩ := x
        obtain ⟨yn, yc, yr, yv, yd, yu, yh⟩ := y
        simp only at *
        have hnq := neq_view xn yn xc xr xv xd xu xh yc yr yv yd yu yh
        cases hvb : viewB ⟨xn, xc, xr, xv, xd, xu, xh⟩ ⟨yn, yc, yr, yv, yd, yu, yh⟩
        · simp only [hvb, Bool.not_false] at hnq
          go_wp2_with fail
          go_quiet (fail)
          go_wp2
          go_ret
          obtain ⟨hxq, hyq, _⟩ := H.out
          refine ⟨ret_bool ?_, hD.drewN nq⟩
          symm
          rw [Bool.eq_false_iff]
          intro h
          have e := (viewsB_iff _ _).1 h
          rw [e, hyq] at hxq
          rw [(Option.some.inj hxq), (viewB_iff _ _).2 rfl] at hvb
          cases hvb
        · simp only [hvb, Bool.not_true] at hnq
          go_wp2_with fail
          go_quiet (fail)
          go_wp2
          obtain ⟨hxq, hyq, hall, _⟩ := H.out
          go_roundw
          case rel => 
            refine ⟨q + 1, by omega, by go_num, hD.drewN nq, fun j hj => ?_⟩
            by_cases e : j = q
            · subst e
              rw [hxq, hyq, (viewB_iff _ _).1 hvb]
            · exact hall j (by omega)
          case measure => simp [intOf]; omega
      · obtain rfl : q = n := by omega
        have heq : xs = ys := List.ext_getElem? fun j => by
          by_cases hj : j < q
          · exact hall j hj
          · rw [List.getElem?_eq_none (by omega), List.getElem?_eq_none (by omega)]
        go_wp2
        go_ret
        exact ⟨ret_bool (by rw [heq]; exact ((viewsB_iff _ _).2 rfl).symm), hD⟩
  · have hne : (((n : Nat) : Int) != ((m : Nat) : Int)) = true := by simp; omega
    go_enter Try.func34, Try.ntmps34
    go_wp2
    go_ret
    refine ⟨ret_bool ?_, Drewn.refl _⟩
    symm
    rw [Bool.eq_false_iff]
    intro h
    exact hl (by rw [← hxn, ← hym, (viewsB_iff _ _).1 h])
end Go.Proofs.Ytneiomimjgfbpaa
namespace Go.Proofs.Ytneiomimjgfbpaa
open Go.RowKit Go.PlainAid
set_option linter.unusedSimpArgs false
set_option linter.unusedVariables false
structure RW (hb : Nat) (w w' : World) : Prop where
  os : w'.os = w.os
  tape : w'.tape = w.tape
  output : w'.output = w.output
  size : w'.heap.size = w.heap.size
  block : ∀ k, k ≠ hb → w'.heap[k]? = w.heap[k]?
theorem RW.refl (hb : Nat) (w : World) : RW hb w w := ⟨rfl, rfl, rfl, rfl, fun _ _ => rfl⟩
theorem RW.drewn {hb : Nat} {w w' : World} (h : Drewn w w') : RW hb w w' := ⟨h.below.os, h.below.tape, h.below.output, by rw [h.heap], fun k _ => by rw [h.heap]⟩
theorem RW.set {hb : Nat} {w w' : World} (h : RW hb w w') (j : Nat) (v : Value) : RW hb w (w'.setCell ⟨hb, j, none⟩ v) := ⟨h.os, h.tape, h.output, by simpa [World.setCell] using h.size, fun k hk => (Below.heap_setCell _ _ _ _ hk).trans (h.block k hk)⟩
section
variable {w w' : World} {hb : Nat} {ao : Option Addr} {n cap : Nat} {bs : List UInt8} {st st' : Nat × Bool}
end
end Go.Proofs.Ytneiomimjgfbpaa
