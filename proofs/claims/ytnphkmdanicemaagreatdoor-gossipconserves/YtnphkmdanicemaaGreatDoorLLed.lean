import Derived.Test.YtnphkmdanicemaaGreatDoorLBase
import Derived.Test.YtnphkmdanicemaaGreatDoorJL
namespace Go.Proofs.YtnphkmdanicemaaGreatDoor.Led
open Go.RowKit Go.PlainAid
set_option linter.unusedVariables false
set_option linter.unusedSimpArgs false
theorem below_drewN {L : Nat} {w w' : World} (n : Nat) (h : Below L w w') : Below L w (w'.drewN n) := ⟨h.os, h.tape, h.output, h.size, h.block⟩
/-- What else stays where one block may change. -/
structure Stq (hb : Nat) (w w' : World) : Prop where
  os : w'.os = w.os
  tape : w'.tape = w.tape
  output : w'.output = w.output
  size : w.heap.size ≤ w'.heap.size
  block : ∀ k, k < w.heap.size → k ≠ hb → w'.heap[k]? = w.heap[k]?
theorem Stq.refl (hb : Nat) (w : World) : Stq hb w w := ⟨rfl, rfl, rfl, Nat.le_refl _, fun _ _ _ => rfl⟩
theorem Stq.trans {hb : Nat} {a b c : World} (h : Stq hb a b) (k : Stq hb b c) : Stq hb a c :=
  ⟨k.os.trans h.os, k.tape.trans h.tape, k.output.trans h.output, Nat.le_trans h.size k.size, fun j hj hn => (k.block j (Nat.lt_of_lt_of_le hj h.size) hn).trans (h.block j hj hn)⟩
theorem Stq.ofBelow {hb : Nat} {w w' : World} (h : Below w.heap.size w w') : Stq hb w w' := ⟨h.os, h.tape, h.output, h.size, fun k hk _ => h.block k hk⟩
theorem Stq.below {hb : Nat} {w w' : World} (h : Stq hb w w') {L : Nat} (hL : L ≤ w.heap.size) (h1 : L ≤ hb) : Below L w w' :=
  ⟨h.os, h.tape, h.output, h.size, fun k hk => h.block k (by omega) (by omega)⟩
theorem Stq.set (hb j : Nat) (v : Value) (w : World) : Stq hb w (w.setCell ⟨hb, j, none⟩ v) := by
  refine ⟨rfl, rfl, rfl, by simp [World.setCell], fun k hk hn => Below.heap_setCell _ _ _ _ hn⟩
theorem Stq.drewN {hb : Nat} {w w' : World} (h : Stq hb w w') (q : Nat) : Stq hb w (w'.drewN q) := ⟨h.os, h.tape, h.output, h.size, h.block⟩
theorem Stq.blk {hb hc : Nat} {w w' : World} {C : Array Value} {T : TypeId} (h : Stq hb w w') (hB : Blk w hc C T) (hn : hc ≠ hb) : Blk w' hc C T := (h.block hc hB.lt hn).trans hB

/-- The package's errors, where they lie. -/
structure Sens where
  a0 : Addr
  a1 : Addr
  a2 : Addr
/-- An error, by its number. -/
def errV (S : Sens) (e : Int) : Value := bif e == 0 then .nilIface else .iface 185 (.pointer (some (bif e == 1 then S.a0 else bif e == 60 then S.a2 else S.a1)))
structure Sen (S : Sens) (L : Nat) (w : World) : Prop where
  v0 : w.cell? ⟨0, 0, none⟩ = some (.iface 185 (.pointer (some S.a0)))
  v1 : w.cell? ⟨1, 0, none⟩ = some (.iface 185 (.pointer (some S.a1)))
  v2 : w.cell? ⟨2, 0, none⟩ = some (.iface 185 (.pointer (some S.a2)))
  n01 : S.a0 ≠ S.a1
  n02 : S.a0 ≠ S.a2
  n12 : S.a1 ≠ S.a2
  b0 : ∃ c t, w.heap[S.a0.block]? = some (.cells c t (0, 0))
  b1 : ∃ c t, w.heap[S.a1.block]? = some (.cells c t (0, 0))
  b2 : ∃ c t, w.heap[S.a2.block]? = some (.cells c t (0, 0))
  l : S.a0.block < L ∧ S.a1.block < L ∧ S.a2.block < L ∧ 2 < L
theorem Sen.below {S : Sens} {L : Nat} {w w' : World} (h : Sen S L w) (hb : Below L w w') : Sen S L w' := by
  obtain ⟨l0, l1, l2, l3⟩ := h.l
  refine ⟨(hb.cell (p := ⟨0, 0, none⟩) (show 0 < L by omega)).trans h.v0, (hb.cell (p := ⟨1, 0, none⟩) (show 1 < L by omega)).trans h.v1, (hb.cell (p := ⟨2, 0, none⟩) (show 2 < L by omega)).trans h.v2, h.n01, h.n02, h.n12, ?_, ?_, ?_, h.l⟩
  · obtain ⟨c, t, e⟩ := h.b0; exact ⟨c, t, (hb.block _ l0).trans e⟩
  · obtain ⟨c, t, e⟩ := h.b1; exact ⟨c, t, (hb.block _ l1).trans e⟩
  · obtain ⟨c, t, e⟩ := h.b2; exact ⟨c, t, (hb.block _ l2).trans e⟩

def okAmt (k : Int) : Bool := decide (1 ≤ k) && decide (k ≤ 1099511627776)
set_option maxRecDepth 100000 in
set_option maxHeartbeats 800000 in
theorem amount_any (k : Int) (w : World) : Calls Tryz.prog 42 #[.int .i64 k] w fun r w' => r = .returned (.bool (okAmt k)) ∧ w' = w := by
  by_cases h1 : k < 1
  · have e : okAmt k = (k == 1) := (show okAmt k = false by simp [okAmt]; omega).trans (show (k == 1) = false by simp; omega).symm
    rw [e]
    go_enter Tryz.func42, Tryz.ntmps42
    go_wp2
    go_ret
    exact ⟨rfl, rfl⟩
  · by_cases h2 : k ≤ 1099511627776
    · have e : okAmt k = true := by simp [okAmt]; omega
      rw [e]
      go_enter Tryz.func42, Tryz.ntmps42
      go_wp2
      go_ret
      exact ⟨rfl, rfl⟩
    · have e : okAmt k = (k == 1099511627776) := (show okAmt k = false by simp [okAmt]; omega).trans (show (k == 1099511627776) = false by simp; omega).symm
      rw [e]
      go_enter Tryz.func42, Tryz.ntmps42
      go_wp2
      go_ret
      exact ⟨rfl, rfl⟩

set_option maxRecDepth 100000 in
set_option maxHeartbeats 1600000 in
theorem told_any {S : Sens} {L : Nat} (w : World) (h : Sen S L w) (e : Int) (he : e = 0 ∨ e = 1 ∨ e = 60 ∨ e = 61) : Calls Tryz.prog 44 #[errV S e] w fun r w' => r = .returned (.int .i64 e) ∧ w' = w := by
  obtain ⟨v0, v1, v2, n01, n02, n12, ⟨c0, t0, b0⟩, ⟨c1, t1, b1⟩, ⟨c2, t2, b2⟩, _⟩ := h
  obtain ⟨a0, a1, a2⟩ := S
  dsimp only at *
  rcases he with rfl | rfl | rfl | rfl
  · show Calls Tryz.prog 44 #[.nilIface] w _
    go_enter Tryz.func44, Tryz.ntmps44
    go_wp2_with fail
    refine (is_nil a0 w).mono ?_
    rintro e w' ⟨rfl, rfl⟩
    go_wp2_with fail
    refine (is_nil a2 _).mono ?_
    rintro e w' ⟨rfl, rfl⟩
    go_wp2_with fail
    refine (is_nil a1 _).mono ?_
    rintro e w' ⟨rfl, rfl⟩
    go_wp2_with fail
    go_ret
    exact ⟨rfl, rfl⟩
  · show Calls Tryz.prog 44 #[.iface 185 (.pointer (some a0))] w _
    go_enter Tryz.func44, Tryz.ntmps44
    go_wp2_with fail
    refine (is_same a0 w).mono ?_
    rintro e w' ⟨rfl, rfl⟩
    go_wp2_with fail
    go_ret
    exact ⟨rfl, rfl⟩
  · show Calls Tryz.prog 44 #[.iface 185 (.pointer (some a2))] w _
    have hk := is_other a2 a0 _ _ _ _ _ (Ne.symm n02) b2 b0
    go_enter Tryz.func44, Tryz.ntmps44
    go_wp2_with fail
    refine hk.mono ?_
    rintro e w' ⟨rfl, rfl⟩
    go_wp2_with fail
    refine (is_same a2 _).mono ?_
    rintro e w' ⟨rfl, rfl⟩
    go_wp2_with fail
    go_ret
    exact ⟨rfl, rfl⟩
  · show Calls Tryz.prog 44 #[.iface 185 (.pointer (some a1))] w _
    have hk := is_other a1 a0 _ _ _ _ _ (Ne.symm n01) b1 b0
    have hm := is_other a1 a2 _ _ _ _ _ n12 b1 b2
    go_enter Tryz.func44, Tryz.ntmps44
    go_wp2_with fail
    refine hk.mono ?_
    rintro e w' ⟨rfl, rfl⟩
    go_wp2_with fail
    refine hm.mono ?_
    rintro e w' ⟨rfl, rfl⟩
    go_wp2_with fail
    refine (is_same a1 _).mono ?_
    rintro e w' ⟨rfl, rfl⟩
    go_wp2_with fail
    go_ret
    exact ⟨rfl, rfl⟩
end Go.Proofs.YtnphkmdanicemaaGreatDoor.Led

