import Derived.Test.YtadfmnlkfcigoaaPl
import Derived.Test.YtadfmnlkfcigoaaNw
namespace Go.Proofs.Ytadfmnlkfcigoaa
open Go.RowKit Go.PlainAid
set_option linter.unusedVariables false
set_option linter.unusedSimpArgs false
theorem isz3 : (Try.prog.info? 3).map (·.size) = some 1 := by kernel_rfl
/-- The code that Begin answers, where nothing was answered yet. -/
def ordF (la v : Int) : Int := if v < 1 ∨ 1099511627776 < v then 1 else if la + 1 < v then 131 else if v = la + 1 then 0 else 133
structure OrdS (a : CA) (lb : Nat) (C : Array Value) (x : CX) (k : Nat) (w wr : World) : Prop where
  m : CM a x wr
  b : Blk wr lb C 44
  sz : C.size = 64
  c : ∀ j : Nat, j < 64 → C[j]? = some (.int .i64 (x.la j))
  nb : ¬ a.own lb
  lo : ∀ k, a.own k → w.heap.size ≤ k
  lol : w.heap.size ≤ lb
  bd : ∀ s, 0 ≤ x.la s ∧ x.la s ≤ k
  op : ∀ s i, 1 ≤ i → i ≤ x.la s → isIn (s, i) x.op = true
  oph : ∀ c ∈ x.op, c.2 ≤ x.la c.1
  bl : Below w.heap.size w wr
theorem OrdS.begin {a : CA} {lb : Nat} {C : Array Value} {x : CX} {k : Nat} {w wr : World} (h : OrdS a lb C x k w wr) (hk : k ≤ 200) (s v : Int) (hs : mine a.me a.rep a.ses s) (hs64 : In64 s) (W : World) (hM : CM a x W) (hB : Blk W lb C 44) (hw : Below w.heap.size w W) :
    Calls Try.prog 13 #[.pointer (some ⟨a.cb, 0, none⟩), .agg #[.int .i64 s, .int .i64 v]] W fun e w' => e = .returned (.tuple #[.agg #[.int .i64 0, .int .i64 0, .int .i64 0, .int .i64 0], .bool false, .int .i64 (ordF (x.la s) v)]) ∧ CM a (begX a x s v) w' ∧ Blk w' lb C 44 ∧ Below w.heap.size w w' := by
  have hbd := h.bd s
  have hr : resB a (x.la s) (isIn (s, v) x.op) (rfind v (x.rg s)) s v = (zrp, false, ordF (x.la s) v) := by
    unfold resB ordF
    rw [if_neg (by simpa using hs)]
    split
    · rfl
    · split
      · rfl
      · split
        · rfl
        · rw [h.op s v (by omega) (by omega), if_pos rfl]
  refine (begin_all s v W hM hs64 (fun _ => by omega) h.oph).mono ?_
  rintro e w' ⟨rfl, h1, h2⟩
  rw [hr]
  exact ⟨rfl, h1, h2.blk hB h.nb, hw.trans (h2.below hw.size h.lo)⟩
theorem OrdS.keep {a : CA} {lb : Nat} {C : Array Value} {x : CX} {k : Nat} {w wr : World} (h : OrdS a lb C x k w wr) {W : World} (hM : CM a x W) (hB : Blk W lb C 44) (hw : Below w.heap.size w W) : OrdS a lb C x (k + 1) w W :=
  ⟨hM, hB, h.sz, h.c, h.nb, h.lo, h.lol, fun s => by have := h.bd s; omega, h.op, h.oph, hw⟩
theorem OrdS.next {a : CA} {lb : Nat} {C : Array Value} {x : CX} {k : Nat} {w wr : World} (h : OrdS a lb C x k w wr) (hk : k ≤ 200) (j : Nat) (hj : j < 64) (hs : mine a.me a.rep a.ses j) (v : Int) (hv : v = x.la j + 1) {W : World} (hM : CM a (begX a x j v) W) (hB : Blk W lb (C.setIfInBounds j (.int .i64 (x.la j + 1))) 44) (hw : Below w.heap.size w W) :
    OrdS a lb (C.setIfInBounds j (.int .i64 (x.la j + 1))) (begX a x j v) (k + 1) w W ∧ (begX a x j v).la j = x.la j + 1 := by
  have hbd := h.bd j
  have e : begX a x j v = { x.setLa j v with op := x.op ++ [((j : Int), v)] } := if_pos ⟨hs, by omega, by omega, hv⟩
  have el : ∀ t : Int, (begX a x j v).la t = if t = j then v else x.la t := fun t => by rw [e]; rfl
  have eo : (begX a x j v).op = x.op ++ [((j : Int), v)] := by rw [e]
  refine ⟨⟨hM, hB, by simp [h.sz], fun i hi => ?_, h.nb, h.lo, h.lol, fun s => ?_, fun s i h1 h2 => ?_, fun c hc => ?_, hw⟩, by rw [el, if_pos rfl, hv]⟩
  · rw [el, Array.getElem?_setIfInBounds]
    by_cases hij : j = i
    · subst hij
      rw [if_pos rfl, if_pos (by rw [h.sz]; exact hj), if_pos rfl, hv]
    · rw [if_neg hij, if_neg (by omega)]
      exact h.c i hi
  · rw [el]
    have := h.bd s
    split <;> omega
  · rw [el] at h2
    rw [eo]
    by_cases hc : s = j ∧ i = v
    · obtain ⟨rfl, rfl⟩ := hc
      simp [isIn]
    · have : isIn (s, i) x.op = true := by
        by_cases hsj : s = j
        · subst hsj
          rw [if_pos rfl] at h2
          exact h.op _ i h1 (by have : i ≠ v := fun e => hc ⟨rfl, e⟩; omega)
        · rw [if_neg hsj] at h2
          exact h.op s i h1 h2
      unfold isIn at this ⊢
      simp only [decide_eq_true_eq] at this ⊢
      exact List.mem_append_left _ this
  · rw [eo] at hc
    rw [el]
    rcases List.mem_append.1 hc with hc | hc
    · have := h.oph c hc
      split
      · rename_i e2
        rw [e2] at this
        omega
      · exact this
    · simp only [List.mem_singleton] at hc
      subst hc
      simp
theorem OrdS.cellAt {a : CA} {lb : Nat} {C : Array Value} {x : CX} {k : Nat} {w wr : World} (h : OrdS a lb C x k w wr) {W : World} (hB : Blk W lb C 44) (j : Nat) (hj : j < 64) : W.cell? ⟨lb, j, none⟩ = some (.int .i64 (x.la j)) := by rw [hB.cell j]; exact h.c j hj
end Go.Proofs.Ytadfmnlkfcigoaa
