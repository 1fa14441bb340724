import Derived.Test.YtjpdcahodmomgaaDk6
import Derived.Test.YtjpdcahodmomgaaMix2
namespace Go.Proofs.Ytjpdcahodmomgaa
open Go.RowKit Go.PlainAid
set_option linter.unusedVariables false
set_option linter.unusedSimpArgs false
theorem idx_run (T e : TypeId) (size : Nat) (hu : Try.prog.underlying T = some (.slice e)) (hs : (Try.prog.info? e).map (·.size) = some size) (w : World) (g o n cap j : Nat) (hj : j < n) :
    (Instr.indexAt T (.slice (some ⟨g, o, none⟩) n cap) (.int .i64 (j : Int))).run Try.prog w = .ok (.pointer (some ⟨g, o + j * size, none⟩)) w := by
  have hi : ∃ i, Try.prog.info? e = some i ∧ i.size = size := by
    cases h : Try.prog.info? e with
    | none => rw [h] at hs; cases hs
    | some i => rw [h] at hs; exact ⟨i, rfl, by simpa using hs⟩
  obtain ⟨i, hi, hz⟩ := hi
  have hlt : (0 : Int) ≤ (j : Int) ∧ (j : Int) < (n : Int) := by omega
  simp only [Instr.indexAt, asIntOf, Sem.run_bind, Sem.run_pure, Result.andThen_ok, run_underlying hu, sizeOf, typeInfo, if_pos hlt]
  simp [hi, hz, addr_add]
/-- A disk that was never armed, after so many writes. -/
structure DQ (L p s n q : Nat) (w : World) (x : DV) : Prop where
  d : DM L p s x w
  n : x.n = n
  off : x.off = false
  armed : x.armed = false
  whole : x.whole = 0
  writes : x.writes = q
theorem DQ.more {L p s n q : Nat} {w w' : World} {x : DV} (h : DQ L p s n q w x) (hb : Below w.heap.size w w') : DQ L p s n q w' x := ⟨h.d.more hb, h.n, h.off, h.armed, h.whole, h.writes⟩
theorem DQ.keep {L p s n q : Nat} {w w' : World} {x : DV} (h : DQ L p s n q w x) {S : Nat → Prop} (hc : Chg S w w') (hS : ∀ k, down p s k → ¬ S k) : DQ L p s n q w' x := ⟨h.d.keep hc hS, h.n, h.off, h.armed, h.whole, h.writes⟩
/-- One write of such a disk. -/
theorem DQ.write {L p s n q k : Nat} {w : World} {x : DV} (h : DQ L p s n q w x) {v : Value} {f : UInt8} {L1 : Nat} (hv : w.ownsRow L1 5 1 v 512 ((fullL f).map B)) (hk : k < n) (hq : q ≤ 1000) :
    Calls Try.prog 59 #[.pointer (some ⟨p, 0, none⟩), .int .i64 (k : Int), v] w fun e w' => e = .returned (.int .i64 0) ∧ DQ L p s n (q + 1) w' ((x.noted k).put k 512 (fullL f)) ∧ Chg (down p s) w w' := by
  have hdec : (x.noted k).dec = x.noted k := by unfold DV.dec; rw [if_neg (by show ¬ x.armed = true; rw [h.armed]; simp)]
  refine (write_whole k w h.d h.off (by rw [h.n]; exact hk) (fullL_len f) (own_by (by rw [fullL_len]; exact hv)) (fun ad kk c e => ?_) (fun e => by rw [h.armed] at e; cases e) (by rw [h.whole]; omega) (by rw [h.writes]; omega)).mono ?_
  · subst e
    rcases id hv.2 with ⟨e1, e2⟩ | ⟨g, c', cur, e1, h2, h3, _⟩
    · cases e1
    · cases e1
      obtain ⟨C, h4, _⟩ := h.d.box
      exact Blk.ne_t (show Blk w g cur 5 from h3) h4 (by decide)
  · rintro e w' ⟨rfl, hd, hc⟩
    rw [hdec] at hd
    exact ⟨rfl, ⟨hd, h.n, h.off, h.armed, h.whole, by show x.writes + 1 = _; rw [h.writes]⟩, hc⟩
end Go.Proofs.Ytjpdcahodmomgaa
