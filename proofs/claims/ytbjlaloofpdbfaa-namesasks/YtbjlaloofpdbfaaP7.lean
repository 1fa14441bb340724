import Derived.Test.YtbjlaloofpdbfaaP6
namespace Go.Proofs.Ytbjlaloofpdbfaa
open Go.RowKit Go.PlainAid
set_option linter.unusedVariables false
set_option linter.unusedSimpArgs false
set_option maxRecDepth 100000 in
theorem plays_any {pb : Nat} (k : Int) (n : List UInt8) (c : Int × Int) (o : OpA) (w : World) (R : World → Prop)
    (hc : ∀ X, Below w.heap.size w X → Calls Try.prog 43 #[.pointer (some ⟨pb, 0, none⟩), .agg #[.int .i64 k, .string ⟨n.toArray⟩, .int .i64 c.1, .int .i64 c.2, .int .i64 o.k, .string ⟨o.n.toArray⟩, .int .i64 o.a, .int .i64 o.b]] X fun e w' => e = .returned (.bool true) ∧ R w')
    (hR : ∀ w', R w' → ∃ hb rb mk tl ms lt wt lc wc, Blk w' pb (pairV hb rb mk (.slice none 0 0) (.slice none 0 0) tl ms lt wt lc wc) 67) :
    Calls Try.prog 28 #[.pointer (some ⟨pb, 0, none⟩), .agg #[.int .i64 k, .string ⟨n.toArray⟩, .int .i64 c.1, .int .i64 c.2, .int .i64 o.k, .string ⟨o.n.toArray⟩, .int .i64 o.a, .int .i64 o.b]] w fun e w' => e = .returned (.bool true) ∧ R w' := by
  obtain ⟨X, hX⟩ : ∃ X, X = w.alloc (.cells #[.int .i64 k, .string ⟨n.toArray⟩, .int .i64 c.1, .int .i64 c.2, .int .i64 o.k, .string ⟨o.n.toArray⟩, .int .i64 o.a, .int .i64 o.b] 41) := ⟨_, rfl⟩
  have hbX : Below w.heap.size w X := by rw [hX]; exact (Below.refl _ _).alloc (Nat.le_refl _) _
  obtain ⟨bx, hbx⟩ : ∃ bx, bx = w.heap.size := ⟨_, rfl⟩
  have HB : Blk X bx #[.int .i64 k, .string ⟨n.toArray⟩, .int .i64 c.1, .int .i64 c.2, .int .i64 o.k, .string ⟨o.n.toArray⟩, .int .i64 o.a, .int .i64 o.b] 41 := by rw [hX, hbx]; exact heap_alloc_new w _
  have HC : Hid (Calls Try.prog 43 #[.pointer (some ⟨pb, 0, none⟩), .agg #[.int .i64 k, .string ⟨n.toArray⟩, .int .i64 c.1, .int .i64 c.2, .int .i64 o.k, .string ⟨o.n.toArray⟩, .int .i64 o.a, .int .i64 o.b]] X fun e w' => e = .returned (.bool true) ∧ R w') := hc X hbX
  have HR : Hid (∀ w', R w' → Calls Try.prog 29 #[.pointer (some ⟨pb, 0, none⟩)] w' fun e w'' => e = .returned (.bool true) ∧ w'' = w') := fun w' h => by
    obtain ⟨hb, rb, mk, tl, ms, lt, wt, lc, wc, hB⟩ := hR w' h
    exact stands_nil w' hB
  have b0 : X.cell? ⟨bx, 0, none⟩ = some (.int .i64 k) := HB.cell 0
  have b1 : X.cell? ⟨bx, 1, none⟩ = some (.string ⟨n.toArray⟩) := HB.cell 1
  have b2 : X.cell? ⟨bx, 2, none⟩ = some (.int .i64 c.1) := HB.cell 2
  have b3 : X.cell? ⟨bx, 3, none⟩ = some (.int .i64 c.2) := HB.cell 3
  have b4 : X.cell? ⟨bx, 4, none⟩ = some (.int .i64 o.k) := HB.cell 4
  have b5 : X.cell? ⟨bx, 5, none⟩ = some (.string ⟨o.n.toArray⟩) := HB.cell 5
  have b6 : X.cell? ⟨bx, 6, none⟩ = some (.int .i64 o.a) := HB.cell 6
  have b7 : X.cell? ⟨bx, 7, none⟩ = some (.int .i64 o.b) := HB.cell 7
  clear hc hR hbX HB
  go_enter Try.func28, Try.ntmps28
  go_upto_region 1 with fail
  rw [← hX, ← hbx]
  clear hX hbx
  go_wp2_with fail
  refine Calls.mono HC.out ?_
  rintro e w2 ⟨rfl, hr⟩
  have HR2 : Hid (R w2) := hr
  clear hr HC b0 b1 b2 b3 b4 b5 b6 b7
  go_wp2_with fail
  refine Calls.mono (HR.out w2 HR2.out) ?_
  rintro e w3 ⟨rfl, hw3⟩
  subst hw3
  go_wp2_with fail
  go_ret
  exact ⟨rfl, HR2.out⟩
end Go.Proofs.Ytbjlaloofpdbfaa
