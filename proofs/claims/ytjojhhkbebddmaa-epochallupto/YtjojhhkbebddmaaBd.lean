import Derived.Test.YtjojhhkbebddmaaBase
namespace Go.Proofs.Ytjojhhkbebddmaa
open Go.RowKit Go.PlainAid
theorem below_drewN {L : Nat} {w w' : World} (h : Below L w w') (q : Nat) : Below L w (w'.drewN q) := ⟨h.os, h.tape, h.output, h.size, h.block⟩
theorem idx_run (T e : TypeId) (size : Nat) (hu : Try.prog.underlying T = some (.slice e)) (hs : (Try.prog.info? e).map (·.size) = some size) (w : World) (g o n cap j : Nat) (hj : j < n) :
    (Instr.indexAt T (.slice (some ⟨g, o, none⟩) n cap) (.int .i64 (j : Int))).run Try.prog w = .ok (.pointer (some ⟨g, o + j * size, none⟩)) w := by
  have hi : ∃ i, Try.prog.info? e = some i ∧ i.size = size := by
    cases h : Try.prog.info? e with
    | none => rw [h] at hs; cases hs
    | some i => rw [h] at hs; exact ⟨i, rfl, by simpa using hs⟩
  obtain ⟨i, hi, hz⟩ := hi
  have hlt : (0 : Int) ≤ (j : Int) ∧ (j : Int) < (n : Int) := by omega
  simp only [Instr.indexAt, asIntOf, Sem.run_bind, Sem.run_pure, Result.andThen_ok, run_underlying hu, sizeOf, typeInfo, if_pos hlt]
  simp [hi, hz, addr_add]
end Go.Proofs.Ytjojhhkbebddmaa
