import Derived.Test.YtbjlaloofpdbfaaP7
namespace Go.Proofs.Ytbjlaloofpdbfaa
open Go.RowKit Go.PlainAid
set_option linter.unusedVariables false
def qop : OpA := ⟨7, [113], 0, 0⟩
theorem g1 : rmn 0 3 1 [] [97] = [[97]] := by decide
theorem g2 : rmn 0 3 1 [[97]] [98] = [[97]] := by decide
theorem g3 : rln 0 3 1 [[97]] [99] = [[97], [99]] := by decide
theorem g4 : askNext [] (4, 1) qop = [((4, 1), qop)] := by decide
theorem g5 : rmK ((4, 1) : Int × Int) [(((4, 1) : Int × Int), qop)] = [] := by decide
section
variable {S0 pb hb mh mw B rb : Nat} {w : World}
theorem scr0 (h : AP S0 pb hb mh mw B rb 0 3 1 (KNof 3 []) [] [] [] 0 (.slice none 0 0) (.slice none 0 0) (.slice none 0 0) (.slice none 0 0) w) : Calls Try.prog 28 #[.pointer (some ⟨pb, 0, none⟩), .agg #[.int .i64 1, .string ⟨([97] : List UInt8).toArray⟩, .int .i64 ((0, 0) : Int × Int).1, .int .i64 ((0, 0) : Int × Int).2, .int .i64 zop.k, .string ⟨zop.n.toArray⟩, .int .i64 zop.a, .int .i64 zop.b]] w fun e w' => e = .returned (.bool true) ∧ ((AP S0 pb hb mh mw B rb 0 3 1 (KNof 3 [[97]]) [] [[97]] [] 0 (.slice none 0 0) (.slice none 0 0) (.slice none 0 0) (.slice none 0 0) w') ∧ BK S0 w w') := by
  refine plays_any 1 [97] (0, 0) zop w (fun w' => (AP S0 pb hb mh mw B rb 0 3 1 (KNof 3 [[97]]) [] [[97]] [] 0 (.slice none 0 0) (.slice none 0 0) (.slice none 0 0) (.slice none 0 0) w') ∧ BK S0 w w') (fun X hX => ?_) (fun w' hR => ?_)
  · refine Calls.mono (callM (KN := []) [97] (0, 0) zop X (h.more hX) (by simp) (by simp) (by simp) (by omega)) ?_
    rintro e w' ⟨rfl, hA, hb⟩
    rw [g1] at hA
    exact ⟨rfl, hA, (BK.of hX h.low).trans hb⟩
  · obtain ⟨hA, hb⟩ := hR
    exact ⟨_, _, _, _, _, _, _, _, _, hA.p⟩
theorem scr1 (h : AP S0 pb hb mh mw B rb 0 3 1 (KNof 3 [[97]]) [] [[97]] [] 0 (.slice none 0 0) (.slice none 0 0) (.slice none 0 0) (.slice none 0 0) w) : Calls Try.prog 28 #[.pointer (some ⟨pb, 0, none⟩), .agg #[.int .i64 1, .string ⟨([98] : List UInt8).toArray⟩, .int .i64 ((0, 0) : Int × Int).1, .int .i64 ((0, 0) : Int × Int).2, .int .i64 zop.k, .string ⟨zop.n.toArray⟩, .int .i64 zop.a, .int .i64 zop.b]] w fun e w' => e = .returned (.bool true) ∧ ((AP S0 pb hb mh mw B rb 0 3 1 (KNof 3 [[97]]) [] [[97]] [] 0 (.slice none 0 0) (.slice none 0 0) (.slice none 0 0) (.slice none 0 0) w') ∧ BK S0 w w') := by
  refine plays_any 1 [98] (0, 0) zop w (fun w' => (AP S0 pb hb mh mw B rb 0 3 1 (KNof 3 [[97]]) [] [[97]] [] 0 (.slice none 0 0) (.slice none 0 0) (.slice none 0 0) (.slice none 0 0) w') ∧ BK S0 w w') (fun X hX => ?_) (fun w' hR => ?_)
  · refine Calls.mono (callM (KN := []) [98] (0, 0) zop X (h.more hX) (by simp) (by simp) (by simp) (by omega)) ?_
    rintro e w' ⟨rfl, hA, hb⟩
    rw [g2] at hA
    exact ⟨rfl, hA, (BK.of hX h.low).trans hb⟩
  · obtain ⟨hA, hb⟩ := hR
    exact ⟨_, _, _, _, _, _, _, _, _, hA.p⟩
theorem scr2 (h : AP S0 pb hb mh mw B rb 0 3 1 (KNof 3 [[97]]) [] [[97]] [] 0 (.slice none 0 0) (.slice none 0 0) (.slice none 0 0) (.slice none 0 0) w) : Calls Try.prog 28 #[.pointer (some ⟨pb, 0, none⟩), .agg #[.int .i64 2, .string ⟨([99] : List UInt8).toArray⟩, .int .i64 ((0, 0) : Int × Int).1, .int .i64 ((0, 0) : Int × Int).2, .int .i64 zop.k, .string ⟨zop.n.toArray⟩, .int .i64 zop.a, .int .i64 zop.b]] w fun e w' => e = .returned (.bool true) ∧ ((AP S0 pb hb mh mw B rb 0 3 1 (KNof 3 [[97], [99]]) [] [[97], [99]] [] 0 (.slice none 0 0) (.slice none 0 0) (.slice none 0 0) (.slice none 0 0) w') ∧ BK S0 w w') := by
  refine plays_any 2 [99] (0, 0) zop w (fun w' => (AP S0 pb hb mh mw B rb 0 3 1 (KNof 3 [[97], [99]]) [] [[97], [99]] [] 0 (.slice none 0 0) (.slice none 0 0) (.slice none 0 0) (.slice none 0 0) w') ∧ BK S0 w w') (fun X hX => ?_) (fun w' hR => ?_)
  · refine Calls.mono (callL (KN := []) [99] (0, 0) zop X (h.more hX) (by simp) (by simp) (by simp) (by omega)) ?_
    rintro e w' ⟨rfl, hA, hb⟩
    rw [g3] at hA
    exact ⟨rfl, hA, (BK.of hX h.low).trans hb⟩
  · obtain ⟨hA, hb⟩ := hR
    exact ⟨_, _, _, _, _, _, _, _, _, hA.p⟩
theorem scr3 (h : AP S0 pb hb mh mw B rb 0 3 1 (KNof 3 [[97], [99]]) [] [[97], [99]] [] 0 (.slice none 0 0) (.slice none 0 0) (.slice none 0 0) (.slice none 0 0) w) : Calls Try.prog 28 #[.pointer (some ⟨pb, 0, none⟩), .agg #[.int .i64 6, .string ⟨([] : List UInt8).toArray⟩, .int .i64 ((0, 0) : Int × Int).1, .int .i64 ((0, 0) : Int × Int).2, .int .i64 zop.k, .string ⟨zop.n.toArray⟩, .int .i64 zop.a, .int .i64 zop.b]] w fun e w' => e = .returned (.bool true) ∧ ((∃ x y, AP S0 pb hb mh mw B rb 0 3 1 (KNof 3 [[97], [99]]) [] [[97], [99]] [] 1 x y (.slice none 0 0) (.slice none 0 0) w') ∧ BK S0 w w') := by
  refine plays_any 6 [] (0, 0) zop w (fun w' => (∃ x y, AP S0 pb hb mh mw B rb 0 3 1 (KNof 3 [[97], [99]]) [] [[97], [99]] [] 1 x y (.slice none 0 0) (.slice none 0 0) w') ∧ BK S0 w w') (fun X hX => ?_) (fun w' hR => ?_)
  · refine Calls.mono (callA [] (0, 0) zop X (h.more hX) (by simp) (by simp) (by decide) (by decide) (by decide)) ?_
    rintro e w' ⟨rfl, ⟨x', y', hA⟩, hb⟩
    skip
    exact ⟨rfl, ⟨x', y', hA⟩, (BK.of hX h.low).trans hb⟩
  · obtain ⟨⟨x, y, hA⟩, hb⟩ := hR
    exact ⟨_, _, _, _, _, _, _, _, _, hA.p⟩
theorem scr4 (h : ∃ x y, AP S0 pb hb mh mw B rb 0 3 1 (KNof 3 [[97], [99]]) [] [[97], [99]] [] 1 x y (.slice none 0 0) (.slice none 0 0) w) : Calls Try.prog 28 #[.pointer (some ⟨pb, 0, none⟩), .agg #[.int .i64 5, .string ⟨([99] : List UInt8).toArray⟩, .int .i64 ((0, 0) : Int × Int).1, .int .i64 ((0, 0) : Int × Int).2, .int .i64 zop.k, .string ⟨zop.n.toArray⟩, .int .i64 zop.a, .int .i64 zop.b]] w fun e w' => e = .returned (.bool true) ∧ ((∃ x y, AP S0 pb hb mh mw B rb 0 3 1 (KNof 3 [[97], [99]]) [] [[97], [99]] [] 1 x y (.slice none 0 0) (.slice none 0 0) w') ∧ BK S0 w w') := by
  obtain ⟨x, y, h⟩ := h
  refine plays_any 5 [99] (0, 0) zop w (fun w' => (∃ x y, AP S0 pb hb mh mw B rb 0 3 1 (KNof 3 [[97], [99]]) [] [[97], [99]] [] 1 x y (.slice none 0 0) (.slice none 0 0) w') ∧ BK S0 w w') (fun X hX => ?_) (fun w' hR => ?_)
  · refine Calls.mono (callK [99] (0, 0) zop X (h.more hX) (by simp) (by simp)) ?_
    rintro e w' ⟨rfl, hA, hb⟩
    skip
    exact ⟨rfl, ⟨x, y, hA⟩, (BK.of hX h.low).trans hb⟩
  · obtain ⟨⟨x, y, hA⟩, hb⟩ := hR
    exact ⟨_, _, _, _, _, _, _, _, _, hA.p⟩
theorem scr5 (h : ∃ x y, AP S0 pb hb mh mw B rb 0 3 1 (KNof 3 [[97], [99]]) [] [[97], [99]] [] 1 x y (.slice none 0 0) (.slice none 0 0) w) : Calls Try.prog 28 #[.pointer (some ⟨pb, 0, none⟩), .agg #[.int .i64 3, .string ⟨([] : List UInt8).toArray⟩, .int .i64 ((4, 1) : Int × Int).1, .int .i64 ((4, 1) : Int × Int).2, .int .i64 qop.k, .string ⟨qop.n.toArray⟩, .int .i64 qop.a, .int .i64 qop.b]] w fun e w' => e = .returned (.bool true) ∧ ((∃ x y, AP S0 pb hb mh mw B rb 0 3 1 (KNof 3 [[97], [99]]) [((4, 1), qop)] [[97], [99]] [((4, 1), qop)] 1 x y (.slice none 0 0) (.slice none 0 0) w') ∧ BK S0 w w') := by
  obtain ⟨x, y, h⟩ := h
  refine plays_any 3 [] (4, 1) qop w (fun w' => (∃ x y, AP S0 pb hb mh mw B rb 0 3 1 (KNof 3 [[97], [99]]) [((4, 1), qop)] [[97], [99]] [((4, 1), qop)] 1 x y (.slice none 0 0) (.slice none 0 0) w') ∧ BK S0 w w') (fun X hX => ?_) (fun w' hR => ?_)
  · refine Calls.mono (callS [] (4, 1) qop X (h.more hX) (by simp) (by simp) (by decide)) ?_
    rintro e w' ⟨rfl, hA, hb⟩
    rw [g4] at hA
    exact ⟨rfl, ⟨x, y, hA⟩, (BK.of hX h.low).trans hb⟩
  · obtain ⟨⟨x, y, hA⟩, hb⟩ := hR
    exact ⟨_, _, _, _, _, _, _, _, _, hA.p⟩
theorem scr6 (h : ∃ x y, AP S0 pb hb mh mw B rb 0 3 1 (KNof 3 [[97], [99]]) [((4, 1), qop)] [[97], [99]] [((4, 1), qop)] 1 x y (.slice none 0 0) (.slice none 0 0) w) : Calls Try.prog 28 #[.pointer (some ⟨pb, 0, none⟩), .agg #[.int .i64 7, .string ⟨([] : List UInt8).toArray⟩, .int .i64 ((0, 0) : Int × Int).1, .int .i64 ((0, 0) : Int × Int).2, .int .i64 zop.k, .string ⟨zop.n.toArray⟩, .int .i64 zop.a, .int .i64 zop.b]] w fun e w' => e = .returned (.bool true) ∧ ((∃ x y z u, AP S0 pb hb mh mw B rb 0 3 1 (KNof 3 [[97], [99]]) [((4, 1), qop)] [[97], [99]] [((4, 1), qop)] 2 x y z u w') ∧ BK S0 w w') := by
  obtain ⟨x, y, h⟩ := h
  refine plays_any 7 [] (0, 0) zop w (fun w' => (∃ x y z u, AP S0 pb hb mh mw B rb 0 3 1 (KNof 3 [[97], [99]]) [((4, 1), qop)] [[97], [99]] [((4, 1), qop)] 2 x y z u w') ∧ BK S0 w w') (fun X hX => ?_) (fun w' hR => ?_)
  · refine Calls.mono (callQ [] (0, 0) zop X (h.more hX) (by simp) (by simp) (by decide) (by decide) (by decide)) ?_
    rintro e w' ⟨rfl, ⟨x', y', hA⟩, hb⟩
    skip
    exact ⟨rfl, ⟨x, y, x', y', hA⟩, (BK.of hX h.low).trans hb⟩
  · obtain ⟨⟨x, y, z, u, hA⟩, hb⟩ := hR
    exact ⟨_, _, _, _, _, _, _, _, _, hA.p⟩
theorem scr7 (h : ∃ x y z u, AP S0 pb hb mh mw B rb 0 3 1 (KNof 3 [[97], [99]]) [((4, 1), qop)] [[97], [99]] [((4, 1), qop)] 2 x y z u w) : Calls Try.prog 28 #[.pointer (some ⟨pb, 0, none⟩), .agg #[.int .i64 4, .string ⟨([] : List UInt8).toArray⟩, .int .i64 ((4, 1) : Int × Int).1, .int .i64 ((4, 1) : Int × Int).2, .int .i64 zop.k, .string ⟨zop.n.toArray⟩, .int .i64 zop.a, .int .i64 zop.b]] w fun e w' => e = .returned (.bool true) ∧ ((∃ x y z u, AP S0 pb hb mh mw B rb 0 3 1 (KNof 3 [[97], [99]]) [] [[97], [99]] [] 2 x y z u w') ∧ BK S0 w w') := by
  obtain ⟨x, y, z, u, h⟩ := h
  refine plays_any 4 [] (4, 1) zop w (fun w' => (∃ x y z u, AP S0 pb hb mh mw B rb 0 3 1 (KNof 3 [[97], [99]]) [] [[97], [99]] [] 2 x y z u w') ∧ BK S0 w w') (fun X hX => ?_) (fun w' hR => ?_)
  · refine Calls.mono (callT [] (4, 1) zop X (h.more hX) (by simp) (by simp)) ?_
    rintro e w' ⟨rfl, hA, hb⟩
    rw [g5] at hA
    exact ⟨rfl, ⟨x, y, z, u, hA⟩, (BK.of hX h.low).trans hb⟩
  · obtain ⟨⟨x, y, z, u, hA⟩, hb⟩ := hR
    exact ⟨_, _, _, _, _, _, _, _, _, hA.p⟩
end
end Go.Proofs.Ytbjlaloofpdbfaa
