import Derived.Test.YtjojhhkbebddmaaL12
namespace Go.Proofs.Ytjojhhkbebddmaa
open Go.RowKit Go.PlainAid
set_option linter.unusedVariables false
set_option linter.unusedSimpArgs false
set_option maxRecDepth 100000 in
theorem begins_law (z0 z1 : Int) (ao : Option Addr) (nn cv : Nat) (xs : List Cl) (W : World) (hxs : ScrIn W ao xs) (hn : xs.length = nn) (hnn : nn ≤ 1048576) : Calls Try.prog 5 #[.int .i64 z0, .int .i64 z1, .slice ao nn cv] W fun e W' => e = .returned (.bool true) ∧ Below W.heap.size W W' := by
  have HP : Hid _ := plays_any z0 z1 0 2 1 1 ao nn cv xs W (earlyF W.heap.size) hxs hn hnn
  clear hxs hn hnn
  go_enter Try.func5, Try.ntmps5
  go_wp2_with (first
    | (go_at_call 14; refine Calls.mono HP.out ?_; rintro e w1 ⟨rfl, hb1⟩)
    | fail)
  go_ret
  exact ⟨rfl, hb1⟩
set_option maxRecDepth 100000 in
theorem hears_law (z0 z1 : Int) (ao : Option Addr) (nn cv : Nat) (xs : List Cl) (W : World) (hxs : ScrIn W ao xs) (hn : xs.length = nn) (hnn : nn ≤ 1048576) : Calls Try.prog 6 #[.int .i64 z0, .int .i64 z1, .slice ao nn cv] W fun e W' => e = .returned (.bool true) ∧ Below W.heap.size W W' := by
  have HP : Hid _ := plays_any z0 z1 0 2 2 3 ao nn cv xs W (earlyF W.heap.size) hxs hn hnn
  clear hxs hn hnn
  go_enter Try.func6, Try.ntmps6
  go_wp2_with (first
    | (go_at_call 14; refine Calls.mono HP.out ?_; rintro e w1 ⟨rfl, hb1⟩)
    | fail)
  go_ret
  exact ⟨rfl, hb1⟩
set_option maxRecDepth 100000 in
theorem looks_law (z0 z1 : Int) (ao : Option Addr) (nn cv : Nat) (xs : List Cl) (W : World) (hxs : ScrIn W ao xs) (hn : xs.length = nn) (hnn : nn ≤ 1048576) : Calls Try.prog 7 #[.int .i64 z0, .int .i64 z1, .slice ao nn cv] W fun e W' => e = .returned (.bool true) ∧ Below W.heap.size W W' := by
  have HP : Hid _ := plays_any z0 z1 0 2 4 6 ao nn cv xs W (earlyF W.heap.size) hxs hn hnn
  clear hxs hn hnn
  go_enter Try.func7, Try.ntmps7
  go_wp2_with (first
    | (go_at_call 14; refine Calls.mono HP.out ?_; rintro e w1 ⟨rfl, hb1⟩)
    | fail)
  go_ret
  exact ⟨rfl, hb1⟩
end Go.Proofs.Ytjojhhkbebddmaa
