import Derived.Test.YtifgmefdlmjocaaTk0
import Derived.Test.YtifgmefdlmjocaaPlan
namespace Go.Proofs.Ytifgmefdlmjocaa
open Go.RowKit Go.PlainAid Go.MapKept
set_option linter.unusedVariables false
set_option linter.unusedSimpArgs false
theorem set7_below {L bx : Nat} {W0 W : World} (h : Below L W0 W) (hl : L ≤ bx) (a b c d e f g : Value) : Below L W0 (((((((W.setCell ⟨bx, 0, none⟩ a).setCell ⟨bx, 1, none⟩ b).setCell ⟨bx, 2, none⟩ c).setCell ⟨bx, 3, none⟩ d).setCell ⟨bx, 4, none⟩ e).setCell ⟨bx, 5, none⟩ f).setCell ⟨bx, 6, none⟩ g) := by
  have s1 : ∀ (W : World) (j : Nat) (v : Value), Below L W0 W → Below L W0 (W.setCell ⟨bx, j, none⟩ v) := fun W j v h => h.trans ⟨rfl, rfl, rfl, by simp [World.setCell], fun k hk => Below.heap_setCell _ _ _ _ (Nat.ne_of_lt (Nat.lt_of_lt_of_le hk hl))⟩
  exact s1 _ _ _ (s1 _ _ _ (s1 _ _ _ (s1 _ _ _ (s1 _ _ _ (s1 _ _ _ (s1 _ _ _ h))))))
set_option maxHeartbeats 1600000 in
theorem store7 {W : World} {bx : Nat} {c0 c1 c2 c3 c4 c5 c6 : Value} (h : Blk W bx #[c0, c1, c2, c3, c4, c5, c6] 46) (n : List UInt8) (i1 i2 i3 i4 i5 i6 : Int) {ev : Operand → Value} {o : Oper} {x y : Operand} (ho : o.op = .store 46 x y) (hx : ev x = .pointer (some ⟨bx, 0, none⟩)) (hy : ev y = .agg #[.string ⟨n.toArray⟩, .int .i64 i1, .int .i64 i2, .int .i64 i3, .int .i64 i4, .int .i64 i5, .int .i64 i6]) : (execOp ev o).run Try.prog W = .ok .skip (((((((W.setCell ⟨bx, 0, none⟩ (.string ⟨n.toArray⟩)).setCell ⟨bx, 1, none⟩ (.int .i64 i1)).setCell ⟨bx, 2, none⟩ (.int .i64 i2)).setCell ⟨bx, 3, none⟩ (.int .i64 i3)).setCell ⟨bx, 4, none⟩ (.int .i64 i4)).setCell ⟨bx, 5, none⟩ (.int .i64 i5)).setCell ⟨bx, 6, none⟩ (.int .i64 i6)) := by
  have b0 := h
  have f0 : World.frozen? W ⟨bx, 0, none⟩ = false := b0.frozen 0
  have d0 : World.cell? W ⟨bx, 0, none⟩ = some c0 := b0.cell 0
  have b1 := b0.set 0 (.string ⟨n.toArray⟩)
  have f1 : World.frozen? (W.setCell ⟨bx, 0, none⟩ (.string ⟨n.toArray⟩)) ⟨bx, 1, none⟩ = false := b1.frozen 1
  have d1 : World.cell? (W.setCell ⟨bx, 0, none⟩ (.string ⟨n.toArray⟩)) ⟨bx, 1, none⟩ = some c1 := b1.cell 1
  have b2 := b1.set 1 (.int .i64 i1)
  have f2 : World.frozen? ((W.setCell ⟨bx, 0, none⟩ (.string ⟨n.toArray⟩)).setCell ⟨bx, 1, none⟩ (.int .i64 i1)) ⟨bx, 2, none⟩ = false := b2.frozen 2
  have d2 : World.cell? ((W.setCell ⟨bx, 0, none⟩ (.string ⟨n.toArray⟩)).setCell ⟨bx, 1, none⟩ (.int .i64 i1)) ⟨bx, 2, none⟩ = some c2 := b2.cell 2
  have b3 := b2.set 2 (.int .i64 i2)
  have f3 : World.frozen? (((W.setCell ⟨bx, 0, none⟩ (.string ⟨n.toArray⟩)).setCell ⟨bx, 1, none⟩ (.int .i64 i1)).setCell ⟨bx, 2, none⟩ (.int .i64 i2)) ⟨bx, 3, none⟩ = false := b3.frozen 3
  have d3 : World.cell? (((W.setCell ⟨bx, 0, none⟩ (.string ⟨n.toArray⟩)).setCell ⟨bx, 1, none⟩ (.int .i64 i1)).setCell ⟨bx, 2, none⟩ (.int .i64 i2)) ⟨bx, 3, none⟩ = some c3 := b3.cell 3
  have b4 := b3.set 3 (.int .i64 i3)
  have f4 : World.frozen? ((((W.setCell ⟨bx, 0, none⟩ (.string ⟨n.toArray⟩)).setCell ⟨bx, 1, none⟩ (.int .i64 i1)).setCell ⟨bx, 2, none⟩ (.int .i64 i2)).setCell ⟨bx, 3, none⟩ (.int .i64 i3)) ⟨bx, 4, none⟩ = false := b4.frozen 4
  have d4 : World.cell? ((((W.setCell ⟨bx, 0, none⟩ (.string ⟨n.toArray⟩)).setCell ⟨bx, 1, none⟩ (.int .i64 i1)).setCell ⟨bx, 2, none⟩ (.int .i64 i2)).setCell ⟨bx, 3, none⟩ (.int .i64 i3)) ⟨bx, 4, none⟩ = some c4 := b4.cell 4
  have b5 := b4.set 4 (.int .i64 i4)
  have f5 : World.frozen? (((((W.setCell ⟨bx, 0, none⟩ (.string ⟨n.toArray⟩)).setCell ⟨bx, 1, none⟩ (.int .i64 i1)).setCell ⟨bx, 2, none⟩ (.int .i64 i2)).setCell ⟨bx, 3, none⟩ (.int .i64 i3)).setCell ⟨bx, 4, none⟩ (.int .i64 i4)) ⟨bx, 5, none⟩ = false := b5.frozen 5
  have d5 : World.cell? (((((W.setCell ⟨bx, 0, none⟩ (.string ⟨n.toArray⟩)).setCell ⟨bx, 1, none⟩ (.int .i64 i1)).setCell ⟨bx, 2, none⟩ (.int .i64 i2)).setCell ⟨bx, 3, none⟩ (.int .i64 i3)).setCell ⟨bx, 4, none⟩ (.int .i64 i4)) ⟨bx, 5, none⟩ = some c5 := b5.cell 5
  have b6 := b5.set 5 (.int .i64 i5)
  have f6 : World.frozen? ((((((W.setCell ⟨bx, 0, none⟩ (.string ⟨n.toArray⟩)).setCell ⟨bx, 1, none⟩ (.int .i64 i1)).setCell ⟨bx, 2, none⟩ (.int .i64 i2)).setCell ⟨bx, 3, none⟩ (.int .i64 i3)).setCell ⟨bx, 4, none⟩ (.int .i64 i4)).setCell ⟨bx, 5, none⟩ (.int .i64 i5)) ⟨bx, 6, none⟩ = false := b6.frozen 6
  have d6 : World.cell? ((((((W.setCell ⟨bx, 0, none⟩ (.string ⟨n.toArray⟩)).setCell ⟨bx, 1, none⟩ (.int .i64 i1)).setCell ⟨bx, 2, none⟩ (.int .i64 i2)).setCell ⟨bx, 3, none⟩ (.int .i64 i3)).setCell ⟨bx, 4, none⟩ (.int .i64 i4)).setCell ⟨bx, 5, none⟩ (.int .i64 i5)) ⟨bx, 6, none⟩ = some c6 := b6.cell 6
  clear b0 b1 b2 b3 b4 b5 b6
  simp only [execOp, ho, hx, hy]
  simp [go_sem, f0, d0, f1, d1, f2, d2, f3, d3, f4, d4, f5, d5, f6, d6]
theorem append_had {w : World} {L ln : Nat} {v : Value} {es : List Ent} (e : Ent) (hr : w.ownsRow L 46 7 v ln (flatV es)) (hln : ln ≤ 100000) (hL : L ≤ w.heap.size) (ty : TypeId) :
    ∃ v5 w5, (Builtin.append_ #[31, 31] ty #[v, .slice (some ⟨w.heap.size, 0, none⟩) 1 1]).run Try.prog (w.alloc (.cells #[.string ⟨e.n.toArray⟩, .int .i64 e.c, .int .i64 e.rc, .int .i64 e.v, .int .i64 e.d, .int .i64 e.u, .int .i64 e.h] 46)) = .ok v5 w5 ∧ w5.ownsRow L 46 7 v5 (ln + 1) (flatV (es ++ [e])) ∧ Grew w w5 v v5 := by
  obtain ⟨v', w', h1, h2, h3, _⟩ := app_any 31 46 (viewV zed) 7 64 Try.underlying31 sizeV rfl (by decide) (by decide) (hr.alloc (.cells #[.string ⟨e.n.toArray⟩, .int .i64 e.c, .int .i64 e.rc, .int .i64 e.v, .int .i64 e.d, .int .i64 e.u, .int .i64 e.h] 46)) ⟨w.heap.size, 0, none⟩ 1 1 e.cs rfl (fun j u hu => by
    rw [addr_add, Nat.zero_add]
    have hB : Blk (w.alloc (.cells #[.string ⟨e.n.toArray⟩, .int .i64 e.c, .int .i64 e.rc, .int .i64 e.v, .int .i64 e.d, .int .i64 e.u, .int .i64 e.h] 46)) w.heap.size #[.string ⟨e.n.toArray⟩, .int .i64 e.c, .int .i64 e.rc, .int .i64 e.v, .int .i64 e.d, .int .i64 e.u, .int .i64 e.h] 46 := heap_alloc_new w _
    rw [hB.cell j]
    simpa [Ent.cs] using hu) (fun u hu => by simp [Ent.cs] at hu; rcases hu with rfl | rfl | rfl | rfl | rfl | rfl | rfl <;> rfl) (by omega) (by rw [World.size_alloc]; omega) ty
  refine ⟨v', w', h1, ?_, h3.ofAlloc⟩
  rw [flatV_append]
  have : flatV [e] = e.cs := by simp [flatV]
  rw [this]
  exact h2
section
variable {L tb vr vc h0 m0 h1 m1 n : Nat} {L0 L0' L1 L1' : List Ent} {hv : Nat → Value} {Hs : Nat → List Ent} {w w' w5 : World}
/-- A box that is none of the talk's is written to. -/
theorem TK.box (h : TK L tb vr vc h0 m0 h1 m1 n L0 L1 hv Hs w) {bx j : Nat} {D : Array Value} {v : Value} (hB : Blk w bx D 46) (hbr : ∀ k, k < 4 → ∀ b, (hv k).ownBlock = some b → b ≠ bx) : TK L tb vr vc h0 m0 h1 m1 n L0 L1 hv Hs (w.setCell ⟨bx, j, none⟩ v) := by
  have hs : Chg (fun b => b = bx) w (w.setCell ⟨bx, j, none⟩ v) := ⟨rfl, rfl, rfl, by simp [World.setCell], fun j hj hn => Below.heap_setCell _ _ _ _ hn⟩
  obtain ⟨C, hb, _⟩ := h.tk
  obtain ⟨cur, hvb, _⟩ := h.vrow
  exact h.keep hs (hb.ne_t hB (by decide)) (hvb.ne_t hB (by decide)) (h.v0.keep hs (h.v0.blk.ne_t hB (by decide)) (fun e => h.v0.map.ne_b hB e.symm)) (h.v1.keep hs (h.v1.blk.ne_t hB (by decide)) (fun e => h.v1.map.ne_b hB e.symm)) hbr
theorem TK.cell0 (h : TK L tb vr vc h0 m0 h1 m1 n L0 L1 hv Hs w) : w.cell? ⟨tb, 0, none⟩ = some (.slice (some ⟨vr, 0, none⟩) n vc) ∧ w.cell? ⟨vr, 0, none⟩ = some (Ptr h0) ∧ w.cell? ⟨vr, 1, none⟩ = some (Ptr h1) ∧ ∀ k, k < 4 → w.cell? ⟨tb, 1 + k, none⟩ = some (hv k) := by
  obtain ⟨C, hb, c0, ck⟩ := h.tk
  obtain ⟨cur, hvb, p0, p1⟩ := h.vrow
  exact ⟨(hb.cell 0).trans c0, (hvb.cell 0).trans p0, (hvb.cell 1).trans p1, fun k hk => (hb.cell _).trans (ck k hk)⟩
end
/-- The blocks that a step of replica 0 may change. -/
def TA (tb m0 : Nat) (hv : Nat → Value) (b : Nat) : Prop := b = tb ∨ b = m0 ∨ ∃ k, k < 4 ∧ (hv k).ownBlock = some b
theorem TK.ta {L tb vr vc h0 m0 h1 m1 n : Nat} {L0 L1 : List Ent} {hv : Nat → Value} {Hs : Nat → List Ent} {w w' : World} (h : TK L tb vr vc h0 m0 h1 m1 n L0 L1 hv Hs w) (hc : Chg (TA tb m0 hv) w w') : Below L w w' :=
  hc.below h.low (fun b hb => by
    rcases hb with rfl | rfl | ⟨k, hk, e⟩
    · exact h.lo.1
    · exact h.lo.2.1
    · exact (ownsRow_lt (h.rows k hk) e).1)
end Go.Proofs.Ytifgmefdlmjocaa
