import Derived.Test.YtgajmiibkakobaaAm
import Derived.Laws.Externs
namespace Go.Proofs.Ytgajmiibkakobaa
open Go.RowKit Go.PlainAid Go.MapKept
set_option linter.unusedVariables false
set_option linter.unusedSimpArgs false
/-- A map of holds held against nil. -/
theorem eqNil0 (d : Nat) (w : World) (p : Option Nat) : (Op.equalIn (d + 1) 65 (.map p) (.map none)).run Try.prog w = .ok p.isNone w := by
  cases p <;> simp [Op.equalIn, run_underlying Try.underlying65]
theorem eqNil (w : World) (p : Option Nat) : (binOp .eql 65 (.map p) (.map none)).run Try.prog w = .ok (.bool p.isNone) w := by
  simp only [binOp]
  simp [show Op.equal 65 (.map p) (.map none) = Op.equalIn (9999 + 1) 65 (.map p) (.map none) from rfl, eqNil0 9999 w p]
/-- What was put into an interface as a map of holds comes out of it. -/
theorem outOf (w : World) (v : Value) : (Instr.typeAssert (.iface 65 v) 20 65 false).run Try.prog w = .ok v w := by
  simp [Instr.typeAssert, run_underlying Try.underlying65, go_sem, Result.andThen]
/-- maps.clone lays a new block. -/
theorem rawClone {r : Nat} {es : Array MapEntry} {clock : Nat} (w : World) (hb : w.heap[r]? = some (.map es clock)) :
    (Extern.MapsClone.clone #[.iface 65 (.map (some r))]).run Try.prog w = .ok (.iface 65 (.map (some w.heap.size))) (w.alloc (.map es clock)) := by
  show (getObj r >>= _).run Try.prog w = _
  simp [MapKept.run_getObj_map hb, Result.andThen, go_sem]
set_option maxRecDepth 100000 in
theorem mclone_nil (w : World) : Calls Try.prog 24 #[.map none] w fun e w' => e = .returned (.map none) ∧ w' = w := by
  have hq := fun w => eqNil w none
  go_enter Try.func24, Try.ntmps24
  go_wp2_with fail
  go_ret
  exact ⟨rfl, rfl⟩
set_option maxRecDepth 100000 in
theorem mclone_raw (b : Nat) (es : Array MapEntry) (clock : Nat) (w : World) (hb : w.heap[b]? = some (.map es clock)) :
    Calls Try.prog 24 #[.map (some b)] w fun e w' => e = .returned (.map (some w.heap.size)) ∧ w' = w.alloc (.map es clock) := by
  have hq := fun w => eqNil w (some b)
  go_enter Try.func24, Try.ntmps24
  go_wp2_with fail
  rw [run_callFunc_extern Try.func34 (by kernel_rfl) (by kernel_rfl) (by kernel_rfl) (e := Extern.MapsClone.clone) (by kernel_rfl), rawClone w hb]
  simp only [Result.andThen]
  rw [Oper.upon_value]
  go_wp2_with fail
  rw [outOf]
  simp only [Result.andThen]
  rw [Oper.upon_value]
  go_wp2_with fail
  go_ret
  exact ⟨rfl, rfl⟩
/-- The clone of a map of holds is another one with the same holds. -/
theorem mclone_any {b : Nat} {H : List (Int × Int)} (w : World) (h : HI w b H) :
    Calls Try.prog 24 #[.map (some b)] w fun e w' => e = .returned (.map (some w.heap.size)) ∧ HI w' w.heap.size H ∧ Below w.heap.size w w' := by
  obtain ⟨es, clock, hb, hs, hm⟩ := h
  refine Calls.mono (mclone_raw b es clock w hb) ?_
  rintro e w' ⟨rfl, rfl⟩
  exact ⟨rfl, ⟨es, clock, heap_alloc_new w _, hs, hm⟩, (Below.refl _ _).alloc (Nat.le_refl _) _⟩
end Go.Proofs.Ytgajmiibkakobaa
