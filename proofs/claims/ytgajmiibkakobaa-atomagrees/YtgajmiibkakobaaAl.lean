import Derived.Test.YtgajmiibkakobaaDd
namespace Go.Proofs.Ytgajmiibkakobaa
open Go.RowKit Go.PlainAid Go.MapKept
set_option linter.unusedVariables false
set_option linter.unusedSimpArgs false
/-- A map that was made since w0; nothing older has changed. -/
structure AX (w0 : World) (ab mb : Nat) (L : List (List UInt8 × Ct)) (w : World) : Prop where
  am : AM ab mb L w
  lo : w0.heap.size ≤ ab ∧ w0.heap.size ≤ mb ∧ ∀ p ∈ L, ∀ x, p.2.hb = some x → w0.heap.size ≤ x
  bel : Below w0.heap.size w0 w
section
variable {w0 w w' : World} {ab mb : Nat} {L : List (List UInt8 × Ct)}
theorem AX.more (h : AX w0 ab mb L w) (hb : Below w.heap.size w w') : AX w0 ab mb L w' := ⟨h.am.more hb, h.lo, h.bel.trans (hb.mono h.bel.size)⟩
theorem AX.new (hb : Below w0.heap.size w0 w) : Calls Try.prog 10 #[] w fun e w' => ∃ ab mb, e = .returned (.pointer (some ⟨ab, 0, none⟩)) ∧ AX w0 ab mb [] w' := by
  refine (new_any w).mono ?_
  rintro e w' ⟨rfl, hA, hb2⟩
  have hs := hb.size
  exact ⟨_, _, rfl, hA, ⟨by omega, hs, fun p hp => by cases hp⟩, hb.trans (hb2.mono hs)⟩
theorem AX.do (h : AX w0 ab mb L w) (k A B q : Int) (n : List UInt8) (hn : n.length ≤ 140737488355328) :
    Calls Try.prog 12 #[.pointer (some ⟨ab, 0, none⟩), .agg #[.int .i64 k, .string ⟨n.toArray⟩, .int .i64 A, .int .i64 B], .int .i64 q] w fun e w' => ∃ hb', e = .returned (.tuple #[.int .i64 (mapO k A B q n L).1.1, .int .i64 (mapO k A B q n L).1.2]) ∧ AX w0 ab mb (doL (mapO k A B q n L) n hb' L) w' := by
  refine (do_any k A B q n w h.am hn).mono ?_
  rintro e w' ⟨hb', rfl, hA, hh, hc⟩
  refine ⟨hb', rfl, hA, ⟨h.lo.1, h.lo.2.1, fun p hp x hx => ?_⟩, h.bel.trans (hc.below h.bel.size (fun k hk => ?_))⟩
  · unfold doL at hp
    by_cases hr : (mapO k A B q n L).1.2 = 0
    · rw [if_pos hr] at hp
      rcases putM_in h.am.kd hp with rfl | ⟨hp, _⟩
      · have hx : hb' = x := by simpa using hx
        subst hx
        rcases hh hr with ⟨p, hp, hpb⟩ | hh
        · exact h.lo.2.2 p hp _ hpb
        · exact Nat.le_trans h.bel.size hh
      · exact h.lo.2.2 p hp x hx
    · rw [if_neg hr] at hp
      exact h.lo.2.2 p hp x hx
  · rcases hk with rfl | ⟨p, hp, hpb⟩
    · exact h.lo.2.1
    · exact h.lo.2.2 p hp _ hpb
theorem AX.peek (h : AX w0 ab mb L w) (n : List UInt8) :
    Calls Try.prog 13 #[.pointer (some ⟨ab, 0, none⟩), .string ⟨n.toArray⟩] w fun e w' => e = .returned (.tuple #[.int .i64 (ctOf n L).val, .int .i64 (ctOf n L).held, .int .i64 (ctOf n L).lim, .bool (isOf n L)]) ∧ AX w0 ab mb L w' := by
  refine (peek_any n w h.am).mono ?_
  rintro e w' ⟨rfl, hb⟩
  exact ⟨rfl, h.more hb⟩
end
theorem al1 : mapO 1 10 4 0 [107] [] = ((0, 0), (10, 4, 0, [])) := by kernel_rfl
theorem al2 (h : Nat) : mapO 2 6 0 0 [107] [([107], ⟨[107], 10, 4, 0, some h, []⟩)] = ((0, 0), (10, 10, 0, [])) := by kernel_rfl
theorem al3 (h : Nat) : mapO 4 3 5 16 [107] [([107], ⟨[107], 10, 10, 0, some h, []⟩)] = ((16, 0), (10, 7, 3, [(16, 3)])) := by kernel_rfl
theorem al4 (h : Nat) : mapO 2 1 0 0 [107] [([107], ⟨[107], 10, 7, 3, some h, [(16, 3)]⟩)] = ((0, 60), (10, 7, 3, [(16, 3)])) := by kernel_rfl
set_option maxRecDepth 100000 in
set_option maxHeartbeats 3200000 in
theorem alive_any (w : World) : Calls Try.prog 9 #[] w fun e w' => e = .returned (.bool true) ∧ Below w.heap.size w w' := by
  have HN : Hid _ := AX.new (Below.refl w.heap.size w)
  go_enter Try.func9, Try.ntmps9
  go_wp2_with fail
  refine Calls.mono HN.out ?_
  rintro e9 w1 ⟨ab, mb, rfl, hA⟩
  have H1 : Hid _ := hA.do 1 10 4 0 [107] (by decide)
  clear hA HN
  go_wp2_with fail
  refine Calls.mono H1.out ?_
  rintro e9 w2 ⟨h1, rfl, hA⟩
  simp only [al1, doL, if_true, Gm.putM] at hA ⊢
  have H2 : Hid _ := hA.do 2 6 0 0 [107] (by decide)
  clear hA H1
  go_wp2_with fail
  refine Calls.mono H2.out ?_
  rintro e9 w3 ⟨h2, rfl, hA⟩
  simp only [al2, doL, if_true, Gm.putM] at hA ⊢
  have H3 : Hid _ := hA.do 4 3 5 16 [107] (by decide)
  clear hA H2
  go_wp2_with fail
  refine Calls.mono H3.out ?_
  rintro e9 w4 ⟨h3, rfl, hA⟩
  simp only [al3, doL, if_true, Gm.putM] at hA ⊢
  have H4 : Hid _ := hA.do 2 1 0 0 [107] (by decide)
  clear hA H3
  go_wp2_with fail
  refine Calls.mono H4.out ?_
  rintro e9 w5 ⟨h4, rfl, hA⟩
  simp only [al4, doL] at hA ⊢
  rw [if_neg (by decide)] at hA
  have H5 : Hid _ := hA.peek [107]
  clear hA H4
  go_wp2_with fail
  refine Calls.mono H5.out ?_
  rintro e9 w6 ⟨rfl, hA⟩
  have HB : Hid (Below w.heap.size w w6) := hA.bel
  rw [show ctOf [107] [([107], Ct.mk [107] 10 7 3 (some h3) [(16, 3)])] = Ct.mk [107] 10 7 3 (some h3) [(16, 3)] from by kernel_rfl, show isOf [107] [([107], Ct.mk [107] 10 7 3 (some h3) [(16, 3)])] = true from by kernel_rfl]
  clear hA H5
  go_wp2_with fail
  go_ret
  exact ⟨rfl, HB.out⟩
end Go.Proofs.Ytgajmiibkakobaa
