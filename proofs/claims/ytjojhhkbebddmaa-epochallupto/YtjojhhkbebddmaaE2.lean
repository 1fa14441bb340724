import Derived.Test.YtjojhhkbebddmaaE1
namespace Go.Proofs.Ytjojhhkbebddmaa
open Go.RowKit Go.PlainAid
set_option linter.unusedVariables false
set_option linter.unusedSimpArgs false
def tgtE (x : EV) : Nat → Ep
  | 0 => e0
  | k + 1 => if higher (liveE x k) (tgtE x k) = true then liveE x k else tgtE x k
set_option maxRecDepth 100000 in
set_option maxHeartbeats 3200000 in
theorem target_any {L mb cb : Nat} {x : EV} {A : List Ac} (w : World) (h : MM L mb cb x A w) (hn : x.n ≤ 16) : Calls Try.prog 35 #[.pointer (some ⟨mb, 0, none⟩)] w fun e w' => e = .returned (epV (tgtE x x.n)) ∧ Below w.heap.size w w' := by
  have c1 := h.c1
  have hm := h.b.lt
  have HM : Hid _ := h
  clear h
  go_enter Try.func35, Try.ntmps35
  go_wp2
  go_loopw [10] (fun i wr => ∃ k : Nat, k ≤ x.n ∧ i = .int .i64 (k : Int) ∧ Hid (Blk wr w.heap.size #[.int .i64 0, .int .i64 0] 49) ∧ Hid (Blk wr (w.heap.size + 1) #[.int .i64 (tgtE x k).r, .int .i64 (tgtE x k).k] 49) ∧ Hid (Below w.heap.size w wr)) (fun i _ => x.n - (intOf i).toNat)
  case atStart =>
    refine ⟨0, Nat.zero_le _, rfl, ?_, ?_, ((Below.refl _ _).alloc (Nat.le_refl _) _).alloc (by simp) _⟩
    · have h1 : Blk (w.alloc (.cells #[.int .i64 0, .int .i64 0] 49)) w.heap.size #[.int .i64 0, .int .i64 0] 49 := heap_alloc_new w _
      exact h1.allc _
    · have h1 := heap_alloc_new (w.alloc (.cells #[.int .i64 0, .int .i64 0] 49)) (.cells #[.int .i64 0, .int .i64 0] 49)
      rw [World.size_alloc] at h1
      exact h1
  case round =>
    obtain ⟨k, hk, rfl, HA, HB, HC⟩ := hrel
    have hlt1 := HB.out.lt
    by_cases hlt : k < x.n
    · obtain ⟨er, ek, hE⟩ : ∃ er ek, liveE x k = ⟨er, ek⟩ := ⟨_, _, rfl⟩
      obtain ⟨tr, tk, hT⟩ : ∃ tr tk, tgtE x k = ⟨tr, tk⟩ := ⟨_, _, rfl⟩
      have HT : Hid (tgtE x (k + 1) = if higher ⟨er, ek⟩ ⟨tr, tk⟩ = true then ⟨er, ek⟩ else ⟨tr, tk⟩) := show tgtE x (k + 1) = _ from by rw [← hE, ← hT]; rfl
      have HL : Hid (Calls Try.prog 43 #[.pointer (some ⟨mb, 0, none⟩), .int .i64 (k : Int)] wr fun e w' => e = .returned (epV ⟨er, ek⟩) ∧ Below wr.heap.size wr w') := show Calls Try.prog 43 #[.pointer (some ⟨mb, 0, none⟩), .int .i64 (k : Int)] wr fun e w' => e = .returned (epV ⟨er, ek⟩) ∧ Below wr.heap.size wr w' from by rw [← hE]; exact live_any k wr (HM.out.more HC.out) (by omega)
      rw [hT] at HB
      have b0 : wr.cell? ⟨w.heap.size + 1, 0, none⟩ = some (.int .i64 tr) := HB.out.cell 0
      have b1 : wr.cell? ⟨w.heap.size + 1, 1, none⟩ = some (.int .i64 tk) := HB.out.cell 1
      have f0 := HB.out.frozen 0
      have f1 := HB.out.frozen 1
      clear hE hT
      unfold epV at *
      have HH : Hid (∀ W, Calls Try.prog 60 #[.agg #[.int .i64 er, .int .i64 ek], .agg #[.int .i64 tr, .int .i64 tk]] W fun e w' => e = .returned (.bool (higher ⟨er, ek⟩ ⟨tr, tk⟩)) ∧ Below W.heap.size W w') := fun W => isHigher_any er ek tr tk W
      cases hh : higher ⟨er, ek⟩ ⟨tr, tk⟩
      all_goals
        rw [hh] at HH
        rw [hh] at HT
        clear hh
        go_wp2_with (first
          | (go_at_call 43; refine Calls.mono HL.out ?_; rintro e w1 ⟨rfl, hb1⟩; obtain ⟨hc1, hf1⟩ := bcell hb1; have hz1 : w.heap.size + 1 < w1.heap.size := Nat.lt_of_lt_of_le hlt1 hb1.size)
          | (go_at_call 60; refine Calls.mono (HH.out _) ?_; rintro e w2 ⟨rfl, hb2⟩; obtain ⟨hc2, hf2⟩ := bcell hb2; have hq2 := Blk.up (w' := w2) ((HB.out.up hb1).allc _) hb2; have f20 := hq2.frozen 0; have f21 := hq2.frozen 1; have c20 : w2.cell? ⟨w.heap.size + 1, 0, none⟩ = some (.int .i64 tr) := hq2.cell 0; have c21 : w2.cell? ⟨w.heap.size + 1, 1, none⟩ = some (.int .i64 tk) := hq2.cell 1)
          | fail)
        go_roundw
        case rel =>
          have hq3 := ((HA.out.up hb1).allc (.cells #[.int .i64 er, .int .i64 ek] 49)).up hb2
          have hbb : Below w.heap.size w w2 := bgo (bal (bgo HC.out hb1 (Nat.le_refl _)) (Nat.le_refl _) _) hb2 (Nat.le_refl _)
          refine ⟨k + 1, by omega, by go_num, ?_, ?_, ?_⟩
          · first | exact hq3 | exact hq3.oth2 (by omega) _ _
          · rw [HT.out]
            first | exact hq2 | exact hq2.set2 _ _
          · first | exact hbb | exact bset2 hbb (by omega) _ _
        case measure => simp [intOf]; omega
    · obtain rfl : k = x.n := by omega
      obtain ⟨tr, tk, hT⟩ : ∃ tr tk, tgtE x x.n = ⟨tr, tk⟩ := ⟨_, _, rfl⟩
      have HT : Hid (tgtE x x.n = ⟨tr, tk⟩) := hT
      rw [hT] at HB
      clear hT
      have b0 : wr.cell? ⟨w.heap.size + 1, 0, none⟩ = some (.int .i64 tr) := HB.out.cell 0
      have b1 : wr.cell? ⟨w.heap.size + 1, 1, none⟩ = some (.int .i64 tk) := HB.out.cell 1
      have a0 : wr.cell? ⟨w.heap.size, 0, none⟩ = some (.int .i64 0) := HA.out.cell 0
      have a1 : wr.cell? ⟨w.heap.size, 1, none⟩ = some (.int .i64 0) := HA.out.cell 1
      have f0 := HA.out.frozen 0
      have f1 := HA.out.frozen 1
      go_wp2
      refine end_ep Try.results35 rfl (HA.out.set2 _ _) ⟨?_, bset2 HC.out (Nat.le_refl _) _ _⟩
      rw [HT.out]
end Go.Proofs.Ytjojhhkbebddmaa
