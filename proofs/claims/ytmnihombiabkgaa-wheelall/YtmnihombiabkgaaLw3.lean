import Derived.Test.YtmnihombiabkgaaPl
namespace Go.Proofs.Ytmnihombiabkgaa
open Go.RowKit Go.PlainAid Go.MapKept
set_option linter.unusedVariables false
set_option linter.unusedSimpArgs false
theorem begins_early : Begins false early ⟨.slice none 0 0, .slice none 0 0, []⟩ := fun L kb w hl hb =>
  ⟨⟨hb, World.ownsRow_nil _ _ _ _, World.ownsRow_nil _ _ _ _, (fun e he => by cases he), hl⟩, rfl, fun k hk => by
    rcases hk with h | h | h | ⟨e, he, _⟩
    · exact h
    · cases h
    · cases h
    · cases he⟩
theorem ActsAt.acts {W : World} {ao : Option Addr} {N : Nat} {os : List LA} (h : ActsAt W ao N os) : Acts W.heap.size W ao N os := fun W' hb i hi => h.get hb hi
set_option maxRecDepth 100000 in
theorem arms_law (z : Int) (ao : Option Addr) (N cap : Nat) (os : List LA) (W : World) (h : ActsAt W ao N os) (hN : N ≤ maxLen) :
    Calls Try.prog 5 #[.int .i64 z, .slice ao N cap] W fun r w' => r = .returned (.bool true) ∧ Below W.heap.size W w' := by
  have HP : Hid _ := plays_any early begins_early z 1 2 ao N cap os W (Nat.le_refl _) h.acts hN
  clear h
  go_enter Try.func5, Try.ntmps5
  go_wp2_with fail
  refine Calls.mono HP.out ?_
  rintro e w1 ⟨rfl, hb⟩
  have HB : Hid _ := hb
  clear hb HP
  go_wp2_with fail
  go_ret
  exact ⟨rfl, HB.out⟩
set_option maxRecDepth 100000 in
theorem ticks_law (z : Int) (ao : Option Addr) (N cap : Nat) (os : List LA) (W : World) (h : ActsAt W ao N os) (hN : N ≤ maxLen) :
    Calls Try.prog 6 #[.int .i64 z, .slice ao N cap] W fun r w' => r = .returned (.bool true) ∧ Below W.heap.size W w' := by
  have HP : Hid _ := plays_any early begins_early z 3 3 ao N cap os W (Nat.le_refl _) h.acts hN
  clear h
  go_enter Try.func6, Try.ntmps6
  go_wp2_with fail
  refine Calls.mono HP.out ?_
  rintro e w1 ⟨rfl, hb⟩
  have HB : Hid _ := hb
  clear hb HP
  go_wp2_with fail
  go_ret
  exact ⟨rfl, HB.out⟩
set_option maxRecDepth 100000 in
theorem lists_law (z : Int) (ao : Option Addr) (N cap : Nat) (os : List LA) (W : World) (h : ActsAt W ao N os) (hN : N ≤ maxLen) :
    Calls Try.prog 7 #[.int .i64 z, .slice ao N cap] W fun r w' => r = .returned (.bool true) ∧ Below W.heap.size W w' := by
  have HP : Hid _ := plays_any early begins_early z 4 5 ao N cap os W (Nat.le_refl _) h.acts hN
  clear h
  go_enter Try.func7, Try.ntmps7
  go_wp2_with fail
  refine Calls.mono HP.out ?_
  rintro e w1 ⟨rfl, hb⟩
  have HB : Hid _ := hb
  clear hb HP
  go_wp2_with fail
  go_ret
  exact ⟨rfl, HB.out⟩
end Go.Proofs.Ytmnihombiabkgaa
