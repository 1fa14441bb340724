import Derived.Test.YtfgnlfemckdfnaaWMeth
import Derived.Test.YtfgnlfemckdfnaaRefA
import Derived.Test.YtfgnlfemckdfnaaJE
namespace Go.Proofs.Ytfgnlfemckdfnaa
open Go.RowKit Go.PlainAid
set_option linter.unusedVariables false
structure Grew (w w' : World) (v v' : Value) : Prop where
  g : w.grownBy w' v.ownBlock
  at' : ∀ j, v'.ownBlock = some j → v.ownBlock = some j ∨ w.heap.size ≤ j
theorem Grew.refl (w : World) (v : Value) : Grew w w v v := ⟨⟨rfl, rfl, rfl, Nat.le_refl _, fun _ _ _ => rfl⟩, fun _ h => Or.inl h⟩
theorem Grew.below {w w' : World} {v v' : Value} {base : Nat} (h : Grew w w' v v') (hb : ∀ j, v.ownBlock = some j → base ≤ j) (hs : base ≤ w.heap.size) : Below base w w' :=
  ⟨h.g.os, h.g.tape, h.g.output, h.g.size, fun k hk => h.g.block k (by omega) (fun e => by have := hb k e.symm; omega)⟩
theorem Grew.ofAlloc {w w' : World} {v v' : Value} {o : Obj} (h : Grew (w.alloc o) w' v v') : Grew w w' v v' := by
  refine ⟨⟨h.g.os, h.g.tape, h.g.output, by have := h.g.size; rw [World.size_alloc] at this; omega, fun k hk hne => ?_⟩, fun j hj => ?_⟩
  · exact (h.g.block k (by rw [World.size_alloc]; omega) hne).trans (Below.heap_alloc _ _ _ hk)
  · rcases h.at' j hj with h1 | h1
    · exact Or.inl h1
    · rw [World.size_alloc] at h1; exact Or.inr (by omega)
end Go.Proofs.Ytfgnlfemckdfnaa
namespace Go.Proofs.Ytfgnlfemckdfnaa
open Go.RowKit Go.PlainAid
set_option linter.unusedSimpArgs false
set_option linter.unusedVariables false
def segRight (s : Seg) : Bool := inB s.src 0 15 && inB s.dst 0 15 && inB s.seq 0 1099511627776 && inB s.ack 0 1099511627776 && (decide ((s.data.length : Int) ≤ 4000) && ((s.seq == 0) == ((s.data.length : Int) == 0)))
set_option maxRecDepth 100000 in
set_option maxHeartbeats 1600000 in
theorem rright_any (s : Seg) (ao : Option Addr) (c : Nat) (w : World) :
    Calls Try.prog 64 #[.agg (segCells s.src s.dst s.seq s.ack (.slice ao s.data.length c))] w fun e w' => e = .returned (.bool (segRight s)) ∧ Below w.heap.size w w' := by
  have h1 := fun w => rwithin_any s.src 0 15 w
  have h2 := fun w => rwithin_any s.dst 0 15 w
  have h3 := fun w => rwithin_any s.seq 0 1099511627776 w
  have h4 := fun w => rwithin_any s.ack 0 1099511627776 w
  unfold segRight
  generalize inB s.src 0 15 = p at *
  generalize inB s.dst 0 15 = q at *
  generalize inB s.seq 0 1099511627776 = r at *
  generalize inB s.ack 0 1099511627776 = t at *
  have H : Hid _ := And.intro h1 (And.intro h2 (And.intro h3 h4))
  clear h1 h2 h3 h4
  obtain ⟨src, dst, seq, ack, data⟩ := s
  simp only at *
  generalize data.length = n at *
  unfold segCells
  cases p
  · go_enter Try.func64, Try.ntmps64
    go_wp2_with (first | (go_at_call 46; first | (with_reducible refine (H.out.1 _).mono ?_; rintro e2 w2 ⟨rfl, rfl⟩) | (with_reducible refine (H.out.2.1 _).mono ?_; rintro e2 w2 ⟨rfl, rfl⟩) | (with_reducible refine (H.out.2.2.1 _).mono ?_; rintro e2 w2 ⟨rfl, rfl⟩) | (with_reducible refine (H.out.2.2.2 _).mono ?_; rintro e2 w2 ⟨rfl, rfl⟩)) | fail)
    go_ret
    exact ⟨ret_bool (by simp), by go_grown⟩
  cases q
  · go_enter Try.func64, Try.ntmps64
    go_wp2_with (first | (go_at_call 46; first | (with_reducible refine (H.out.1 _).mono ?_; rintro e2 w2 ⟨rfl, rfl⟩) | (with_reducible refine (H.out.2.1 _).mono ?_; rintro e2 w2 ⟨rfl, rfl⟩) | (with_reducible refine (H.out.2.2.1 _).mono ?_; rintro e2 w2 ⟨rfl, rfl⟩) | (with_reducible refine (H.out.2.2.2 _).mono ?_; rintro e2 w2 ⟨rfl, rfl⟩)) | fail)
    go_ret
    exact ⟨ret_bool (by simp), by go_grown⟩
  cases r
  · go_enter Try.func64, Try.ntmps64
    go_wp2_with (first | (go_at_call 46; first | (with_reducible refine (H.out.1 _).mono ?_; rintro e2 w2 ⟨rfl, rfl⟩) | (with_reducible refine (H.out.2.1 _).mono ?_; rintro e2 w2 ⟨rfl, rfl⟩) | (with_reducible refine (H.out.2.2.1 _).mono ?_; rintro e2 w2 ⟨rfl, rfl⟩) | (with_reducible refine (H.out.2.2.2 _).mono ?_; rintro e2 w2 ⟨rfl, rfl⟩)) | fail)
    go_ret
    exact ⟨ret_bool (by simp), by go_grown⟩
  cases t
  · go_enter Try.func64, Try.ntmps64
    go_wp2_with (first | (go_at_call 46; first | (with_reducible refine (H.out.1 _).mono ?_; rintro e2 w2 ⟨rfl, rfl⟩) | (with_reducible refine (H.out.2.1 _).mono ?_; rintro e2 w2 ⟨rfl, rfl⟩) | (with_reducible refine (H.out.2.2.1 _).mono ?_; rintro e2 w2 ⟨rfl, rfl⟩) | (with_reducible refine (H.out.2.2.2 _).mono ?_; rintro e2 w2 ⟨rfl, rfl⟩)) | fail)
    go_ret
    exact ⟨ret_bool (by simp), by go_grown⟩
  by_cases hn : n ≤ 4000
  · have hn' : (n : Int) ≤ 4000 := by omega
    go_enter Try.func64, Try.ntmps64
    go_wp2_with (first | (go_at_call 46; first | (with_reducible refine (H.out.1 _).mono ?_; rintro e2 w2 ⟨rfl, rfl⟩) | (with_reducible refine (H.out.2.1 _).mono ?_; rintro e2 w2 ⟨rfl, rfl⟩) | (with_reducible refine (H.out.2.2.1 _).mono ?_; rintro e2 w2 ⟨rfl, rfl⟩) | (with_reducible refine (H.out.2.2.2 _).mono ?_; rintro e2 w2 ⟨rfl, rfl⟩)) | fail)
    go_ret
    exact ⟨ret_bool (by simp [hn']), by go_grown⟩
  · have hn' : ¬ (n : Int) ≤ 4000 := by omega
    go_enter Try.func64, Try.ntmps64
    go_wp2_with (first | (go_at_call 46; first | (with_reducible refine (H.out.1 _).mono ?_; rintro e2 w2 ⟨rfl, rfl⟩) | (with_reducible refine (H.out.2.1 _).mono ?_; rintro e2 w2 ⟨rfl, rfl⟩) | (with_reducible refine (H.out.2.2.1 _).mono ?_; rintro e2 w2 ⟨rfl, rfl⟩) | (with_reducible refine (H.out.2.2.2 _).mono ?_; rintro e2 w2 ⟨rfl, rfl⟩)) | fail)
    go_ret
    exact ⟨ret_bool (by simp; omega), by go_grown⟩
theorem segRight_is (s : Seg) : (segment.wr s).isSome = segRight s := by
  obtain ⟨src, dst, seq, ack, data⟩ := s
  have e : segment.wr ⟨src, dst, seq, ack, data⟩ = join ((num 0 15).wr src) (join ((num 0 15).wr dst) (join ((num 0 maxN).wr seq) (join ((num 0 maxN).wr ack) ((dataC seq).wr data)))) := rfl
  have hj : ∀ a b, (join a b).isSome = (a.isSome && b.isSome) := by intro a b; cases a <;> cases b <;> rfl
  rw [e, dataC_wr, hj, hj, hj, hj, hj, num_is, num_is, num_is, num_is, num_is]
  simp only [segRight, Option.isSome_some, Bool.and_true]
  have hm : ((maxN : Nat) : Int) = 1099511627776 := rfl
  rw [hm, show ((0 : Nat) : Int) = 0 from rfl, show ((15 : Nat) : Int) = 15 from rfl]
  have hd : inB (data.length : Int) (lowOf seq : Nat) (highOf seq : Nat) = (decide ((data.length : Int) ≤ 4000) && ((seq == 0) == ((data.length : Int) == 0))) := by
    by_cases h : seq = 0
    · subst h
      by_cases hl : data.length = 0
      · rw [hl]; decide
      · have h1 : ((data.length : Int) == 0) = false := by rw [beq_eq_false_iff_ne]; omega
        have h2 : ¬ ((data.length : Int) ≤ ((highOf 0 : Nat) : Int)) := by show ¬ ((data.length : Int) ≤ ((0 : Nat) : Int)); omega
        rw [h1, inB, decide_eq_false h2, Bool.and_false]
        simp
    · have h1 : (seq == 0) = false := by rw [beq_eq_false_iff_ne]; exact h
      rw [h1]
      by_cases hl : data.length = 0
      · rw [hl]; simp [inB, lowOf, h]
      · have h2 : ((data.length : Int) == 0) = false := by rw [beq_eq_false_iff_ne]; omega
        rw [h2]
        simp [inB, lowOf, highOf, h]
        omega
  rw [hd]
  simp only [Bool.and_assoc]
end Go.Proofs.Ytfgnlfemckdfnaa
