import Derived.Test.YtjpdcahodmomgaaDk5
namespace Go.Proofs.Ytjpdcahodmomgaa
open Go.RowKit Go.PlainAid
set_option linter.unusedVariables false
set_option linter.unusedSimpArgs false
section
variable {L p s : Nat} {x : DV}
end
/-- The row that the caller holds on to, while bytes are laid behind it. -/
theorem own_setAbove {w : World} {L L' n g cap k m c : Nat} {zs ys : List UInt8} (h : w.ownsRow L 5 1 (.slice (some ⟨g, 0, none⟩) n cap) n (zs.map B)) (hk : n ≤ k) (z : UInt8) : (w.setCell ⟨g, k, none⟩ (B z)).ownsRow L 5 1 (.slice (some ⟨g, 0, none⟩) n cap) n (zs.map B) := by
  have := (own_setB (k := k) h z).1
  rwa [List.set_eq_of_length_le (by have := h.1; simp at this; omega)] at this
theorem app_bytesK {w : World} {base k : Nat} {v : Value} {xs : List Value} (hown : w.ownsRow base 5 1 v k xs) (hbase : base ≤ w.heap.size) (ps : List UInt8) (hl : k + ps.length ≤ 140737488355328) :
    ∃ v' w', (∀ ty, (Builtin.append_ #[38, 38] ty #[v, .slice (some ⟨w.heap.size, 0, none⟩) ps.length ps.length]).run Try.prog (w.alloc (.cells (ps.map B).toArray 5)) = .ok v' w') ∧ w'.ownsRow base 5 1 v' (k + ps.length) (xs ++ ps.map B) ∧ Grew w w' v v' ∧
      ∀ (d : Value) (n base' : Nat) (zs : List Value), n ≤ k → d.ownBlock = v.ownBlock → w.ownsRow base' 5 1 d n zs → w'.ownsRow base' 5 1 d n zs := by
  obtain ⟨v', w', a, b, c, d⟩ := app_any (w := w.alloc (.cells (ps.map B).toArray 5)) 38 5 (.int .u8 0) 1 1 Try.underlying38 info5' rfl (by decide) (by decide) (hown.alloc _) ⟨w.heap.size, 0, none⟩ ps.length ps.length (ps.map B) (by simp) (fun j u hu => by
    have hB : Blk (w.alloc (.cells (ps.map B).toArray 5)) w.heap.size (ps.map B).toArray 5 := heap_alloc_new w _
    rw [addr_add, Nat.zero_add, hB.cell j]
    simpa using hu) (oneB ps) (by omega) (by rw [World.size_alloc]; omega) 38
  exact ⟨v', w', fun ty => a, b, c.ofAlloc, fun dd n base' zs h1 h2 h3 => d dd n base' zs h1 h2 (h3.alloc _)⟩
theorem own_keep2 {w w' : World} {L n : Nat} {v : Value} {xs : List Value} {S : Nat → Prop} {e : TypeId} (h : w.ownsRow L e 1 v n xs) (hc : Chg S w w') (hS : ∀ g, v.ownBlock = some g → ¬ S g) : w'.ownsRow L e 1 v n xs := ownsRow_same h (fun g hg => hc.block g (ownsRow_lt h hg).2 (hS g hg))
end Go.Proofs.Ytjpdcahodmomgaa
