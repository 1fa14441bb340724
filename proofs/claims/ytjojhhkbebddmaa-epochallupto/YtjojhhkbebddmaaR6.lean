import Derived.Test.YtjojhhkbebddmaaR5
namespace Go.Proofs.Ytjojhhkbebddmaa
open Go.RowKit Go.PlainAid
set_option linter.unusedVariables false
set_option linter.unusedSimpArgs false
/-- What a call of the document's machine may do. -/
def RStp (g g' : RG) (w w' : World) : Prop := g'.rb = g.rb ∧ Chg (rown g) w w' ∧ ∀ k, rown g' k → rown g k ∨ w.heap.size ≤ k
theorem RStp.refl {g : RG} {w w' : World} (hb : Below w.heap.size w w') : RStp g g w w' := ⟨rfl, Chg.ofBelow _ hb, fun k hk => Or.inl hk⟩
theorem RStp.trans {g g1 g2 : RG} {w w1 w2 : World} (h : RStp g g1 w w1) (k : RStp g1 g2 w1 w2) : RStp g g2 w w2 := by
  have hsz := h.2.1.size
  refine ⟨k.1.trans h.1, h.2.1.trans k.2.1 (fun j hj e => ?_), fun j hj => ?_⟩
  · rcases h.2.2 j e with q | q
    · exact q
    · omega
  · rcases k.2.2 j hj with q | q
    · exact h.2.2 j q
    · exact .inr (by omega)
section
variable {L : Nat} {g : RG} {r : RV} {w : World}
theorem RM.lw (h : RM L g r w) : L ≤ w.heap.size := Nat.le_trans h.lo (Nat.le_of_lt h.b.lt)
theorem RM.addK (h : RM L g r w) (d : Ep) (hl : r.kn.length ≤ 1000000000) :
    ∃ v8 w8, (∀ ty, (Builtin.append_ #[64, 64] ty #[g.vk, .slice (some ⟨w.heap.size, 0, none⟩) 1 1]).run Try.prog (w.alloc (.cells #[.int .i64 d.r, .int .i64 d.k] 49)) = .ok v8 w8) ∧ Blk w8 g.rb (rbox g r) 115 ∧ Chg (fun k => g.vk.ownBlock = some k) w w8 ∧ RM L { g with vk := v8 } { r with kn := r.kn ++ [d] } (w8.setCell ⟨g.rb, 2, none⟩ v8) ∧ RStp g { g with vk := v8 } w (w8.setCell ⟨g.rb, 2, none⟩ v8) := by
  obtain ⟨v8, w8, hr8, ho8, hg8⟩ := app_ep d h.k h.lw hl
  have hct := hg8.chg
  obtain ⟨n1, n2, n3⟩ := h.ne
  have hB8 : Blk w8 g.rb (rbox g r) 115 := hct.blk h.b (fun e => (n1 g.rb e).1 rfl)
  have cs := setCell_chg w8 g.rb 2 v8
  have hrow : ∀ {t z n M : Nat} {u : Value} {xs : List Value}, w.ownsRow M t z u n xs → (∀ q, u.ownBlock = some q → g.vk.ownBlock ≠ some q ∧ q ≠ g.rb) → (w8.setCell ⟨g.rb, 2, none⟩ v8).ownsRow M t z u n xs := fun hq hk => by
    have q1 := ownsRow_same hq (fun q e => hct.block q (ownsRow_lt hq e).2 (hk q e).1)
    exact ownsRow_same q1 (fun q e => cs.block q (ownsRow_lt q1 e).2 (hk q e).2)
  refine ⟨v8, w8, hr8, hB8, hct, ⟨hB8.set 2 _, ?_, hrow h.o (fun q e => ⟨fun e2 => h.dj q e2 e, (n2 q e).1⟩), hrow h.t (fun q e => ⟨fun e2 => (n1 q e2).2 e, n3 q e⟩), fun q e e2 => ?_, h.lo⟩, rfl, ?_, fun k hk => ?_⟩
  · refine ownsRow_same ho8 (fun q e => cs.block q (ownsRow_lt ho8 e).2 (fun e2 => ?_))
    rcases hg8.at' q e with q2 | q2
    · exact (n1 q q2).1 e2
    · have := h.b.lt; omega
  · rcases hg8.at' q e with q2 | q2
    · exact h.dj q q2 e2
    · have := (ownsRow_lt h.o e2).2; omega
  · exact (hct.mono (B := rown g) (fun j _ e => .inr (.inl e))).trans (cs.mono (B := rown g) (fun j _ e => .inl e)) (fun _ _ e => e)
  · rcases hk with q | q | q | q
    · exact .inl (.inl q)
    · rcases hg8.at' k q with q2 | q2
      · exact .inl (.inr (.inl q2))
      · exact .inr q2
    · exact .inl (.inr (.inr (.inl q)))
    · exact .inl (.inr (.inr (.inr q)))
theorem RM.addO (h : RM L g r w) (d : Ep) (hl : r.ov.length ≤ 1000000000) :
    ∃ v8 w8, (∀ ty, (Builtin.append_ #[64, 64] ty #[g.vo, .slice (some ⟨w.heap.size, 0, none⟩) 1 1]).run Try.prog (w.alloc (.cells #[.int .i64 d.r, .int .i64 d.k] 49)) = .ok v8 w8) ∧ Blk w8 g.rb (rbox g r) 115 ∧ Chg (fun k => g.vo.ownBlock = some k) w w8 ∧ RM L { g with vo := v8 } { r with ov := r.ov ++ [d] } (w8.setCell ⟨g.rb, 3, none⟩ v8) ∧ RStp g { g with vo := v8 } w (w8.setCell ⟨g.rb, 3, none⟩ v8) := by
  obtain ⟨v8, w8, hr8, ho8, hg8⟩ := app_ep d h.o h.lw hl
  have hct := hg8.chg
  obtain ⟨n1, n2, n3⟩ := h.ne
  have hB8 : Blk w8 g.rb (rbox g r) 115 := hct.blk h.b (fun e => (n2 g.rb e).1 rfl)
  have cs := setCell_chg w8 g.rb 3 v8
  have hrow : ∀ {t z n M : Nat} {u : Value} {xs : List Value}, w.ownsRow M t z u n xs → (∀ q, u.ownBlock = some q → g.vo.ownBlock ≠ some q ∧ q ≠ g.rb) → (w8.setCell ⟨g.rb, 3, none⟩ v8).ownsRow M t z u n xs := fun hq hk => by
    have q1 := ownsRow_same hq (fun q e => hct.block q (ownsRow_lt hq e).2 (hk q e).1)
    exact ownsRow_same q1 (fun q e => cs.block q (ownsRow_lt q1 e).2 (hk q e).2)
  refine ⟨v8, w8, hr8, hB8, hct, ⟨hB8.set 3 _, hrow h.k (fun q e => ⟨fun e2 => h.dj q e e2, (n1 q e).1⟩), ?_, hrow h.t (fun q e => ⟨fun e2 => (n2 q e2).2 e, n3 q e⟩), fun q e e2 => ?_, h.lo⟩, rfl, ?_, fun k hk => ?_⟩
  · refine ownsRow_same ho8 (fun q e => cs.block q (ownsRow_lt ho8 e).2 (fun e2 => ?_))
    rcases hg8.at' q e with q2 | q2
    · exact (n2 q q2).1 e2
    · have := h.b.lt; omega
  · rcases hg8.at' q e2 with q2 | q2
    · exact h.dj q e q2
    · have := (ownsRow_lt h.k e).2; omega
  · exact (hct.mono (B := rown g) (fun j _ e => .inr (.inr (.inl e)))).trans (cs.mono (B := rown g) (fun j _ e => .inl e)) (fun _ _ e => e)
  · rcases hk with q | q | q | q
    · exact .inl (.inl q)
    · exact .inl (.inr (.inl q))
    · rcases hg8.at' k q with q2 | q2
      · exact .inl (.inr (.inr (.inl q2)))
      · exact .inr q2
    · exact .inl (.inr (.inr (.inr q)))
theorem info119 : (Try.prog.info? 119).map (fun i => (i.zero, i.size, i.bytes)) = some (some (.agg #[.int .i64 0, .int .i64 0, .int .i64 0, .int .i64 0]), 4, 32) := by kernel_rfl
theorem app_nt {w : World} {L : Nat} {v : Value} {l : List Nt} (d : Nt) (hown : w.ownsRow L 119 4 v l.length (flatN l)) (hb : L ≤ w.heap.size) (hl : l.length ≤ 1000000000) :
    ∃ v' w', (∀ ty, (Builtin.append_ #[113, 113] ty #[v, .slice (some ⟨w.heap.size, 0, none⟩) 1 1]).run Try.prog (w.alloc (.cells #[.int .i64 d.f, .int .i64 d.h, .int .i64 d.e.r, .int .i64 d.e.k] 119)) = .ok v' w') ∧ w'.ownsRow L 119 4 v' (l ++ [d]).length (flatN (l ++ [d])) ∧ Grew w w' v v' := by
  obtain ⟨v5, w5, hr5, ho5, hg5, _⟩ := app_any (w := w.alloc (.cells #[.int .i64 d.f, .int .i64 d.h, .int .i64 d.e.r, .int .i64 d.e.k] 119)) 113 119 (.agg #[.int .i64 0, .int .i64 0, .int .i64 0, .int .i64 0]) 4 32 Try.underlying113 info119 rfl (by decide) (by decide) (hown.alloc _) ⟨w.heap.size, 0, none⟩ 1 1 d.row rfl (fun j uu hu => by
    have hB : Blk (w.alloc (.cells #[.int .i64 d.f, .int .i64 d.h, .int .i64 d.e.r, .int .i64 d.e.k] 119)) w.heap.size #[.int .i64 d.f, .int .i64 d.h, .int .i64 d.e.r, .int .i64 d.e.k] 119 := heap_alloc_new w _
    rw [addr_add, Nat.zero_add, hB.cell j]
    simpa [Nt.row] using hu) (fun uu hu => flatN_one [d] uu (by simpa [flatN] using hu)) (by omega) (by rw [World.size_alloc]; omega) 113
  refine ⟨v5, w5, fun ty => hr5, ?_, hg5.ofAlloc⟩
  rw [flatN_app]
  simpa [flatN] using ho5
theorem RM.addN (h : RM L g r w) (d : Nt) (hl : r.nt.length ≤ 1000000000) :
    ∃ v8 w8, (∀ ty, (Builtin.append_ #[113, 113] ty #[g.vn, .slice (some ⟨w.heap.size, 0, none⟩) 1 1]).run Try.prog (w.alloc (.cells #[.int .i64 d.f, .int .i64 d.h, .int .i64 d.e.r, .int .i64 d.e.k] 119)) = .ok v8 w8) ∧ Blk w8 g.rb (rbox g r) 115 ∧ Chg (fun k => g.vn.ownBlock = some k) w w8 ∧ RM L { g with vn := v8 } { r with nt := r.nt ++ [d] } (w8.setCell ⟨g.rb, 4, none⟩ v8) ∧ RStp g { g with vn := v8 } w (w8.setCell ⟨g.rb, 4, none⟩ v8) := by
  obtain ⟨v8, w8, hr8, ho8, hg8⟩ := app_nt d h.t h.lw hl
  have hct := hg8.chg
  obtain ⟨n1, n2, n3⟩ := h.ne
  have hB8 : Blk w8 g.rb (rbox g r) 115 := hct.blk h.b (fun e => n3 g.rb e rfl)
  have cs := setCell_chg w8 g.rb 4 v8
  have hrow : ∀ {t z n M : Nat} {u : Value} {xs : List Value}, w.ownsRow M t z u n xs → (∀ q, u.ownBlock = some q → g.vn.ownBlock ≠ some q ∧ q ≠ g.rb) → (w8.setCell ⟨g.rb, 4, none⟩ v8).ownsRow M t z u n xs := fun hq hk => by
    have q1 := ownsRow_same hq (fun q e => hct.block q (ownsRow_lt hq e).2 (hk q e).1)
    exact ownsRow_same q1 (fun q e => cs.block q (ownsRow_lt q1 e).2 (hk q e).2)
  refine ⟨v8, w8, hr8, hB8, hct, ⟨hB8.set 4 _, hrow h.k (fun q e => ⟨(n1 q e).2, (n1 q e).1⟩), hrow h.o (fun q e => ⟨(n2 q e).2, (n2 q e).1⟩), ?_, h.dj, h.lo⟩, rfl, ?_, fun k hk => ?_⟩
  · refine ownsRow_same ho8 (fun q e => cs.block q (ownsRow_lt ho8 e).2 (fun e2 => ?_))
    rcases hg8.at' q e with q2 | q2
    · exact n3 q q2 e2
    · have := h.b.lt; omega
  · exact (hct.mono (B := rown g) (fun j _ e => .inr (.inr (.inr e)))).trans (cs.mono (B := rown g) (fun j _ e => .inl e)) (fun _ _ e => e)
  · rcases hk with q | q | q | q
    · exact .inl (.inl q)
    · exact .inl (.inr (.inl q))
    · exact .inl (.inr (.inr (.inl q)))
    · rcases hg8.at' k q with q2 | q2
      · exact .inl (.inr (.inr (.inr q2)))
      · exact .inr q2
end
end Go.Proofs.Ytjojhhkbebddmaa
