import Derived.Test.YtoemddibojpkpaaP4
namespace Go.Proofs.Ytoemddibojpkpaa
open Go.RowKit Go.PlainAid
set_option linter.unusedVariables false
set_option linter.unusedSimpArgs false
/-- A keep at its beginning. -/
def keep0 : Obj := .cells #[.bool false, .slice none 0 0, .slice none 0 0, .slice none 0 0, .slice none 0 0, .slice none 0 0, .slice none 0 0] 44
set_option maxRecDepth 100000 in
set_option maxHeartbeats 1600000 in
theorem asks_law (me h x : Int) (hme : IntKind.i64.wrap me = me) (hh : IntKind.i64.wrap h = h) (ao : Option Addr) (n c : Nat) (zs : List Int) (W : World) (hl : zs.length = n) (hnil : ao = none → n = 0 ∧ c = 0) (hx : FromI W ao zs) (hn : n * 8 ≤ 140737488351232) :
    Calls Try.prog 8 #[.int .i64 me, .slice ao n c, .int .i64 h, .int .i64 x] W fun r w' => r = .returned (.bool true) ∧ Below W.heap.size W w' := by
  have hB0 : Below W.heap.size W (W.alloc keep0) := (Below.refl _ _).alloc (Nat.le_refl _) _
  have hab := able_any (W.alloc keep0)
  have HX : Hid (FromI W ao zs) := hx
  have HNIL : Hid (ao = none → n = 0 ∧ c = 0) := hnil
  have HB0 : Hid _ := hB0
  clear hx hnil hB0
  unfold keep0 at hab HB0
  go_enter Try.func8, Try.ntmps8
  go_wp2_with fail
  refine hab.mono ?_
  rintro e w1 ⟨rfl, hb1⟩
  have HB1 : Hid (Below W.heap.size W w1) := HB0.out.trans (hb1.mono (by simp))
  have h3 := played3 (c := c) (kb := W.heap.size) me 0 hme w1 hl HNIL.out (HX.out.all HB1.out) (by omega)
  clear hb1 hab HB0
  go_wp2_with fail
  refine h3.mono ?_
  rintro e w2 ⟨rfl, hb2⟩
  have HB2 : Hid (Below W.heap.size W w2) := HB1.out.trans (hb2.mono HB1.out.size)
  have h4 := played4 (ao := none) (n := 0) (c := 0) (kb := W.heap.size) (zs := []) h x hh w2 rfl (fun _ => ⟨rfl, rfl⟩) (fun h => by simp at h) (by omega)
  clear hb2 h3 HB1
  go_wp2_with fail
  refine h4.mono ?_
  rintro e w3 ⟨rfl, hb3⟩
  have HB3 : Hid (Below W.heap.size W w3) := HB2.out.trans (hb3.mono HB2.out.size)
  clear hb3 h4 HB2
  go_wp2
  go_ret
  exact ⟨rfl, HB3.out⟩
end Go.Proofs.Ytoemddibojpkpaa
