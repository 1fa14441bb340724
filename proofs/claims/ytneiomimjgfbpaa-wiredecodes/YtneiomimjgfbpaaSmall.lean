import Derived.Test.YtneiomimjgfbpaaWEnc2
namespace Go.Proofs.Ytneiomimjgfbpaa
open Go.RowKit Go.PlainAid

set_option maxRecDepth 100000 in
set_option maxHeartbeats 800000 in
theorem alike_any (ao bo : Option Addr) (n m ca cb : Nat) (xs ys : List UInt8) (w : World) (hx : xs.length = n) (hy : ys.length = m) (hfx : From w ao xs) (hfy : From w bo ys) :
    Calls Try.prog 15 #[.slice ao n ca, .slice bo m cb] w (fun e w' => e = .returned (.bool (decide (xs = ys))) ∧ w' = w) := by
  have c1 := conv_run w ao n ca xs hx hfx
  have c2 := conv_run w bo m cb ys hy hfy
  go_enter Try.func15, Try.ntmps15
  go_wp2
  go_ret
  refine ⟨ret_bool ?_, rfl⟩
  by_cases h : xs = ys <;> simp [h]

set_option maxRecDepth 100000 in
set_option maxHeartbeats 800000 in
theorem one_any (at' e n : Int) (z : Bool) (w : World) :
    Calls Try.prog 12 #[.int .i64 at', .int .i64 e, .int .i64 n, .bool z] w (fun r w' => r = .returned (.tuple #[.bool (e == 0), .bool (if e == 0 then at' == 0 else e == 20 && decide (0 ≤ at') && decide (at' ≤ n) && z)]) ∧ w' = w) := by
  go_enter Try.func12, Try.ntmps12
  go_wp2
  all_goals (go_ret2; refine ⟨?_, rfl⟩)
  · rfl
  · rfl
  · have : decide (at' ≤ n) = false := decide_eq_false (by omega)
    rw [this]; rfl
  · have : decide (0 ≤ at') = false := decide_eq_false (by omega)
    rw [this]; rfl
  · have : (e == 20) = false := by rw [beq_eq_false_iff_ne]; assumption
    rw [this]; rfl

set_option maxRecDepth 100000 in
set_option maxHeartbeats 800000 in
theorem lent_any (ao : Option Addr) (n cap : Nat) (xs : List UInt8) (w : World) (hx : xs.length = n) (hnil : ao = none → n = 0 ∧ cap = 0) (hf : From w ao xs) (hn : n ≤ 140737488351232) :
    Calls Try.prog 11 #[.slice ao n cap] w (fun e w' => ∃ g c, e = .returned (.slice (some ⟨g, 0, none⟩) (n + 2) c) ∧ n + 2 ≤ c ∧ w.heap.size ≤ g ∧ g < w'.heap.size ∧ From w' (some ⟨g, 0, none⟩) xs ∧ Below w.heap.size w w') := by
  go_enter Try.func11, Try.ntmps11
  go_wp2_with (first
    | (at_builtin; go_must (refine wpList_append_bytes rfl _ _ rfl w.heap.size 0 _ [] rfl (World.ownsRow_nil _ _ _ _) ao n cap xs rfl hx hnil hf (by omega) (Nat.le_refl _) ?_))
    | fail)
  intro v1 w1 hown1 hg1
  have hb1 : Below w.heap.size w w1 := (Below.refl _ _).grown hg1 (Nat.le_refl _) (fun k h => by cases h)
  have hown1 : w1.ownsRow w.heap.size 5 1 v1 n (xs.map B) := by simpa using hown1
  obtain ⟨ao1, cap1, rfl, hc1, _, hs1, hl1⟩ := own_from hown1
  have hm : From (w1.alloc (.cells #[.int .u8 165, .int .u8 90] 5 (0, 0))) (some ⟨w1.heap.size, 0, none⟩) [165, 90] := from_mark w1 [165, 90] _ _ rfl
  have hsz := hb1.size
  clear hg1
  go_wp2_with (first
    | (at_builtin; go_must (refine wpList_append_bytes rfl _ _ rfl w.heap.size n _ xs rfl (hown1.alloc _) _ 2 2 [165, 90] rfl rfl (by intro h; cases h) hm (by omega) (by simp; omega) ?_))
    | fail)
  intro v2 w2 hown2 hg2
  have hown2 : w2.ownsRow w.heap.size 5 1 v2 (n + 2) ((xs ++ [165, 90]).map B) := by simpa using hown2
  have hb2 : Below w.heap.size w w2 := (hb1.alloc hsz _).grown hg2 (by simp; omega) (fun k e => (hown1.lt k e).1)
  obtain ⟨ao2, cap2, rfl, hc2, hn2, hs2, _⟩ := own_from hown2
  cases ao2 with
  | none => have := (hn2 rfl).1; omega
  | some ad =>
    obtain ⟨g, hg⟩ : ∃ g, ad = ⟨g, 0, none⟩ := by
      rcases hown2.2 with ⟨h1, h2⟩ | ⟨g, cap, cur, h1, _⟩
      · omega
      · simp only [Value.slice.injEq, Option.some.injEq] at h1
        exact ⟨g, h1.1⟩
    subst hg
    have hlt := hown2.lt g rfl
    go_wp2
    go_ret
    refine ⟨g, cap2, rfl, hc2, hlt.1, hlt.2, fun h0 => ?_, hb2⟩
    obtain ⟨b3, o3, h3, h4⟩ := hs2 (by simp)
    exact ⟨b3, o3, h3, fun j u hu => h4 j u (by rw [List.getElem?_append_left (List.getElem?_eq_some_iff.1 hu).1]; exact hu)⟩
end Go.Proofs.Ytneiomimjgfbpaa
namespace Go.Proofs.Ytneiomimjgfbpaa
open Go.RowKit Go.PlainAid
def segB (x y : Seg) : Bool := x.src == y.src && x.dst == y.dst && x.seq == y.seq && x.ack == y.ack && decide (x.data = y.data)
theorem segB_iff (x y : Seg) : segB x y = true ↔ x = y := by
  cases x; cases y
  simp [segB, and_assoc]
set_option maxRecDepth 100000 in
set_option maxHeartbeats 1600000 in
theorem sameSeg_any (x y : Seg) (ao bo : Option Addr) (ca cb : Nat) (w : World) (hfx : From w ao x.data) (hfy : From w bo y.data) (hxb : ∀ b o, ao = some ⟨b, o, none⟩ → b < w.heap.size) (hyb : ∀ b o, bo = some ⟨b, o, none⟩ → b < w.heap.size) :
    Calls Try.prog 17 #[.agg (segCells x.src x.dst x.seq x.ack (.slice ao x.data.length ca)), .agg (segCells y.src y.dst y.seq y.ack (.slice bo y.data.length cb))] w (fun e w' => e = .returned (.bool (segB x y)) ∧ Below w.heap.size w w') := by
  have hal := fun (W : World) (h : Below w.heap.size w W) => alike_any ao bo x.data.length y.data.length ca cb x.data y.data W rfl rfl (hfx.keep fun b o e => h.block b (hxb b o e)) (hfy.keep fun b o e => h.block b (hyb b o e))
  unfold segCells at *
  unfold segB
  obtain ⟨x0, x1, x2, x3, x4⟩ := x
  obtain ⟨y0, y1, y2, y3, y4⟩ := y
  simp only at *
  go_enter Try.func17, Try.ntmps17
  go_wp2_with (go_at_call 15; refine (hal _ (by go_grown)).mono ?_; rintro e w3 ⟨rfl, rfl⟩)
  all_goals go_ret
  all_goals refine ⟨ret_bool ?_, by go_grown⟩
  all_goals simp_all
end Go.Proofs.Ytneiomimjgfbpaa
