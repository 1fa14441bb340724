import Derived.Test.YtmnihombiabkgaaSlT
namespace Go.Proofs.Ytmnihombiabkgaa
open Go.RowKit Go.PlainAid Go.MapKept
set_option linter.unusedVariables false
set_option linter.unusedSimpArgs false
/-- The reference's wheel in memory. -/
structure RW (base rb : Nat) (s : WV) (v : Value) (w : World) : Prop where
  b : Blk w rb #[.int .i64 s.now, .int .i64 s.last, v] 74
  r : w.ownsRow base 50 4 v s.A.length (flatT s.A)
  lo : base ≤ rb
def rown (rb : Nat) (v : Value) (k : Nat) : Prop := k = rb ∨ v.ownBlock = some k
def RStp (rb : Nat) (v v' : Value) (w w' : World) : Prop := Chg (rown rb v) w w' ∧ ∀ k, rown rb v' k → rown rb v k ∨ w.heap.size ≤ k
section
variable {base rb : Nat} {s : WV} {v : Value} {w w' : World}
theorem RW.keep (h : RW base rb s v w) {S : Nat → Prop} (hc : Chg S w w') (hS : ∀ k, rown rb v k → ¬ S k) : RW base rb s v w' :=
  ⟨hc.blk h.b (hS _ (Or.inl rfl)), ownsRow_same h.r (fun g e => hc.block g (ownsRow_lt h.r e).2 (hS _ (Or.inr e))), h.lo⟩
theorem RW.more (h : RW base rb s v w) (hb : Below w.heap.size w w') : RW base rb s v w' := h.keep (Chg.ofBelow (fun _ => False) hb) (fun _ _ h => h)
theorem RW.lt (h : RW base rb s v w) {k : Nat} (hk : rown rb v k) : base ≤ k ∧ k < w.heap.size := by
  rcases hk with rfl | e
  · exact ⟨h.lo, h.b.lt⟩
  · exact ownsRow_lt h.r e
theorem RW.ne (h : RW base rb s v w) : ∀ k, v.ownBlock = some k → k ≠ rb := fun k hk e => by
  subst e
  obtain ⟨cur, hcur⟩ := ownsRow_type h.r hk
  have := hcur.symm.trans h.b
  cases this
theorem RStp.refl (rb : Nat) (v : Value) (hb : Below w.heap.size w w') : RStp rb v v w w' := ⟨Chg.ofBelow _ hb, fun k hk => Or.inl hk⟩
theorem RStp.ahead {v' : Value} {X : World} (hb : Below w.heap.size w X) (h : RStp rb v v' X w') : RStp rb v v' w w' :=
  ⟨(Chg.ofBelow (rown rb v) hb).trans h.1 (fun _ _ e => e), fun k hk => by
    rcases h.2 k hk with h1 | h1
    · exact Or.inl h1
    · exact Or.inr (Nat.le_trans hb.size h1)⟩
/-- A new list takes the old one's place; the two numbers too. -/
theorem RW.put (h : RW base rb s v w) {X : World} (hX : Below w.heap.size w X) {s' : WV} {v' : Value} (hr : X.ownsRow w.heap.size 50 4 v' s'.A.length (flatT s'.A)) (hb : Blk w' rb #[.int .i64 s'.now, .int .i64 s'.last, v'] 74) (hc : Chg (fun k => k = rb) X w') :
    RW base rb s' v' w' ∧ RStp rb v v' w w' := by
  have hlt : rb < w.heap.size := h.b.lt
  have hlo := h.lo
  refine ⟨⟨hb, ownsRow_mono (ownsRow_same hr (fun g e => hc.block g (ownsRow_lt hr e).2 (fun e2 => ?_))) (by omega), h.lo⟩, ⟨?_, fun k hk => ?_⟩⟩
  · have := (ownsRow_lt hr e).1; omega
  · exact (Chg.ofBelow (rown rb v) hX).trans (hc.mono (B := rown rb v) (fun j _ e => Or.inl e)) (fun _ _ e => e)
  · rcases hk with rfl | e
    · exact Or.inl (Or.inl rfl)
    · exact Or.inr (ownsRow_lt hr e).1
end
/-- One more timer behind the others. -/
theorem app_tm {w : World} {base : Nat} {v : Value} {l : List Tm} (t : Tm) (hown : w.ownsRow base 50 4 v l.length (flatT l)) (hb : base ≤ w.heap.size) (hl : l.length ≤ 1000000) :
    ∃ v' w', (∀ ty, (Builtin.append_ #[33, 33] ty #[v, .slice (some ⟨w.heap.size, 0, none⟩) 1 1]).run Try.prog (w.alloc (.cells #[.int .i64 t.due, .int .i64 t.num, .int .i64 t.kind, .int .i64 t.id] 50)) = .ok v' w') ∧ w'.ownsRow base 50 4 v' (l ++ [t]).length (flatT (l ++ [t])) ∧ Grew w w' v v' ∧
      ∀ (d : Value) (n base' : Nat) (zs : List Value), n ≤ l.length → d.ownBlock = v.ownBlock → w.ownsRow base' 50 4 d n zs → w'.ownsRow base' 50 4 d n zs := by
  obtain ⟨v5, w5, hr5, ho5, hg5, hin5⟩ := app_any (w := w.alloc (.cells #[.int .i64 t.due, .int .i64 t.num, .int .i64 t.kind, .int .i64 t.id] 50)) 33 50 (.agg #[.int .i64 0, .int .i64 0, .int .i64 0, .int .i64 0]) 4 32 Try.underlying33 info50 rfl (by decide) (by decide) (hown.alloc _) ⟨w.heap.size, 0, none⟩ 1 1 t.row rfl (fun j uu hu => by
    have hB : Blk (w.alloc (.cells #[.int .i64 t.due, .int .i64 t.num, .int .i64 t.kind, .int .i64 t.id] 50)) w.heap.size #[.int .i64 t.due, .int .i64 t.num, .int .i64 t.kind, .int .i64 t.id] 50 := heap_alloc_new w _
    rw [addr_add, Nat.zero_add, hB.cell j]
    simpa [Tm.row] using hu) (fun uu hu => flatT_one [t] uu (by simpa [flatT] using hu)) (by omega) (by rw [World.size_alloc]; omega) 33
  refine ⟨v5, w5, fun ty => hr5, ?_, hg5.ofAlloc, fun d n base' zs hn hd hw => hin5 d n base' zs hn hd (hw.alloc _)⟩
  rw [List.length_append, flatT_app]
  have : flatT [t] = t.row := by simp [flatT]
  rw [this]
  exact ho5
set_option maxRecDepth 100000 in
set_option maxHeartbeats 800000 in
theorem rnew_any (u : Int) (w : World) (h : 1 ≤ u ∧ u ≤ 64) :
    Calls Try.prog 27 #[.int .i64 u] w fun e w' => e = .returned (.tuple #[.pointer (some ⟨w.heap.size, 0, none⟩), .int .i64 0]) ∧ RW w.heap.size w.heap.size ⟨0, 0, []⟩ (.slice none 0 0) w' ∧ Below w.heap.size w w' := by
  obtain ⟨h1, h2⟩ := h
  have h1' : ¬ u < 1 := by omega
  have h2' : ¬ (64 : Int) < u := by omega
  go_enter Try.func27, Try.ntmps27
  go_wp2_with fail
  go_ret2
  exact ⟨rfl, ⟨heap_alloc_new w _, World.ownsRow_nil _ _ _ _, Nat.le_refl _⟩, (Below.refl _ _).alloc (Nat.le_refl _) _⟩
set_option maxRecDepth 100000 in
set_option maxHeartbeats 800000 in
theorem rnew_no (u : Int) (w : World) (h : ¬ (1 ≤ u ∧ u ≤ 64)) :
    Calls Try.prog 27 #[.int .i64 u] w fun e w' => e = .returned (.tuple #[.pointer none, .int .i64 1]) ∧ w' = w := by
  by_cases h1 : u < 1
  · go_enter Try.func27, Try.ntmps27
    go_wp2_with fail
    go_ret2
    exact ⟨rfl, rfl⟩
  · have h2 : (64 : Int) < u := by omega
    go_enter Try.func27, Try.ntmps27
    go_wp2_with fail
    go_ret2
    exact ⟨rfl, rfl⟩
end Go.Proofs.Ytmnihombiabkgaa
