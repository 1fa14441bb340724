import Derived.Test.YtlajcaofpmjdlaaPl
import Derived.Deep.Cut
namespace Go.Proofs.Ytlajcaofpmjdlaa
open Go.RowKit Go.PlainAid
set_option linter.unusedVariables false
set_option linter.unusedSimpArgs false
def nilV : Value := .slice none 0 0
/-- An empty shelf. -/
def sv0 : SV := ⟨.slice none 0 0, .slice none 0 0, .slice none 0 0, .slice none 0 0, .slice none 0 0, .slice none 0 0, .slice none 0 0, .slice none 0 0, [], [], 0, [], [], [], 0⟩
theorem sv0_ok (n : Nat) : sv0.Ok n := ⟨Nat.zero_le _, Nat.zero_le _, (fun d hd => by cases hd), Nat.zero_le _, Nat.zero_le _, rfl, Nat.zero_le _, Nat.zero_le _, (fun d hd => by cases hd), (fun d hd => by cases hd)⟩
section
variable {L p s rb : Nat} {fv lv : Value} {x : DV} {r : RV} {R : List (Ent L)} {w w' : World}
theorem Held.addNo {X : Ent L} (h : Held R w) (hP : X.P w) (hn : ∀ k, ¬ X.bl k) : Held (X :: R) w := h.add hP (fun k hk => (hn k hk).elim)
/-- A new pair. -/
theorem pair_new (h : Held (dmE L p s x :: rdE L rb fv lv r :: R) w) (hL : L ≤ w.heap.size) : PA L w.heap.size p s rb sv0 fv lv (.slice none 0 0) 0 [] x r R (w.alloc (.cells (sv0.cs (.pointer (some ⟨p, 0, none⟩)) (.pointer (some ⟨rb, 0, none⟩)) (.slice none 0 0) 0) 66)) := by
  have hno : ∀ k, ¬ ((Value.slice none 0 0).ownBlock = some k) := fun k hk => by cases hk
  have h1 : Held (datE L (.slice none 0 0, []) :: dmE L p s x :: rdE L rb fv lv r :: R) w := h.addNo (World.ownsRow_nil _ _ _ _) hno
  have h2 : Held (dmE L p s x :: rdE L rb fv lv r :: datE L (.slice none 0 0, []) :: R) w := h1.perm (((List.Perm.swap _ _ _)).trans (List.Perm.cons _ (List.Perm.swap _ _ _)))
  have h3 : Held (sv0.rows L ++ (sv0.data L ++ (dmE L p s x :: rdE L rb fv lv r :: datE L (.slice none 0 0, []) :: R))) w := by
    refine Held.addNo ?_ (tail_nil _ _ _) hno
    refine Held.addNo ?_ (tail_nil _ _ _) hno
    refine Held.addNo ?_ (tail_nil _ _ _) hno
    refine Held.addNo ?_ (tail_nil _ _ _) hno
    refine Held.addNo ?_ (tail_nil _ _ _) hno
    refine Held.addNo ?_ (tail_nil _ _ _) hno
    refine Held.addNo ?_ (tail_nil _ _ _) hno
    refine Held.addNo ?_ (tail_nil _ _ _) hno
    exact h2
  exact Held.fresh h3 ((Below.refl _ _).alloc (Nat.le_refl _) _) ⟨heap_alloc_new w _, hL⟩ (fun k hk => by rw [hk]; exact Nat.le_refl _)
set_option maxRecDepth 100000 in
set_option maxHeartbeats 3200000 in
theorem made_no (i : Int) (w : World) (h : i < 1 ∨ 65536 < i) : Calls Try.prog 30 #[.int .i64 i] w fun e w' => e = .returned (.tuple #[.pointer none, .bool true]) ∧ w' = w := by
  have HA : Hid _ := new_no i w h
  have HB : Hid _ := rnew_no i w h
  have HN := num_any 1 w
  clear h
  go_enter Try.func30, Try.ntmps30
  go_wp2_with fail
  refine Calls.mono HA.out ?_
  rintro e w1 ⟨rfl, hw1⟩
  replace hw1 := hw1.symm
  subst hw1
  go_wp2_with fail
  refine Calls.mono HB.out ?_
  rintro e w1 ⟨rfl, hw1⟩
  replace hw1 := hw1.symm
  subst hw1
  go_wp2_with fail
  refine Calls.mono HN ?_
  rintro e w1 ⟨rfl, hw1⟩
  replace hw1 := hw1.symm
  subst hw1
  go_wp2_with fail
  go_ret2
  exact ⟨rfl, rfl⟩
set_option maxRecDepth 100000 in
set_option maxHeartbeats 3200000 in
theorem made_yes (n : Nat) (w : World) (hn : 1 ≤ n ∧ n ≤ 65536) (hR : Held R w) (hL : L ≤ w.heap.size) : Calls Try.prog 30 #[.int .i64 (n : Int)] w fun e w' => ∃ pb p s rb, e = .returned (.tuple #[.pointer (some ⟨pb, 0, none⟩), .bool true]) ∧ PA L pb p s rb sv0 (.slice none 0 0) (.slice none 0 0) (.slice none 0 0) 0 [] (fresh n) (rfresh n []) R w' ∧ Below w.heap.size w w' := by
  have HA : Hid _ := new_yes n w hn
  have HNN : Hid (1 ≤ n ∧ n ≤ 65536) := hn
  have HRR : Hid (Held R w ∧ L ≤ w.heap.size) := ⟨hR, hL⟩
  clear hn hR hL
  go_enter Try.func30, Try.ntmps30
  go_wp2_with fail
  refine Calls.mono HA.out ?_
  rintro e w1 ⟨rfl, hd1, hb1⟩
  clear HA
  have HB : Hid _ := rnew_yes n w1 HNN.out
  have HD : Hid (DM w.heap.size (w.heap.size + 1) w.heap.size (fresh n) w1 ∧ Below w.heap.size w w1) := ⟨hd1, hb1⟩
  clear hd1 hb1
  go_wp2_with fail
  refine Calls.mono HB.out ?_
  rintro e w2 ⟨rfl, hd2, hb2⟩
  clear HB
  have HN := num_any 0 w2
  have hdl : DM L (w.heap.size + 1) w.heap.size (fresh n) w1 := ⟨HD.out.1.box, HD.out.1.sec, ⟨Nat.le_trans HRR.out.2 HD.out.1.lo.1, HRR.out.2⟩, HD.out.1.nb⟩
  have h1 : Held (dmE L (w.heap.size + 1) w.heap.size (fresh n) :: R) w1 := Held.fresh HRR.out.1 HD.out.2 hdl (fun k hk => by rcases hk with e | e <;> omega)
  have hrl : RM L w1.heap.size (.slice none 0 0) (.slice none 0 0) (rfresh n []) w2 := ⟨hd2.b, ownsRow_mono hd2.f (Nat.le_trans HRR.out.2 HD.out.2.size), ownsRow_mono hd2.l (Nat.le_trans HRR.out.2 HD.out.2.size), fun g hg => ownsRow_mono (hd2.d g hg) (Nat.le_trans HRR.out.2 HD.out.2.size), Nat.le_trans HRR.out.2 HD.out.2.size, hd2.nb, hd2.sz, hd2.fl⟩
  have h2 : Held (rdE L w1.heap.size (.slice none 0 0) (.slice none 0 0) (rfresh n []) :: dmE L (w.heap.size + 1) w.heap.size (fresh n) :: R) w2 := Held.fresh h1 hb2 hrl (fun k hk => (hd2.lt hk).1)
  have h3 := pair_new (h2.perm (List.Perm.swap _ _ _)) (Nat.le_trans HRR.out.2 (Nat.le_trans HD.out.2.size hb2.size))
  obtain ⟨X, hX⟩ : ∃ X, X = w2.alloc (.cells (sv0.cs (.pointer (some ⟨w.heap.size + 1, 0, none⟩)) (.pointer (some ⟨w1.heap.size, 0, none⟩)) (.slice none 0 0) 0) 66) := ⟨_, rfl⟩
  have hbX : Below w.heap.size w X := by rw [hX]; exact (HD.out.2.trans (hb2.mono HD.out.2.size)).alloc (Nat.le_trans HD.out.2.size hb2.size) _
  rw [← hX] at h3
  have HF : Hid _ := And.intro h3 hbX
  have HX : Hid (X = w2.alloc (.cells #[.pointer (some ⟨w.heap.size + 1, 0, none⟩), .pointer (some ⟨w1.heap.size, 0, none⟩), .slice none 0 0, .slice none 0 0, .slice none 0 0, .slice none 0 0, .int .i64 0, .slice none 0 0, .slice none 0 0, .slice none 0 0, .slice none 0 0, .int .i64 0, .slice none 0 0, .int .i64 0] 66)) := hX
  clear hd2 hb2 hdl h1 hrl h2 h3 hbX hX HD
  go_wp2_with fail
  refine Calls.mono HN ?_
  rintro e w3 ⟨rfl, hw3⟩
  replace hw3 := hw3.symm
  subst hw3
  clear HN
  go_wp2_with fail
  rw [← HX.out]
  go_ret2
  exact ⟨_, _, _, _, rfl, HF.out.1, HF.out.2⟩
end
end Go.Proofs.Ytlajcaofpmjdlaa
