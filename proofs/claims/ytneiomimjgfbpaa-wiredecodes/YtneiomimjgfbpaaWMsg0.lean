import Derived.Test.YtneiomimjgfbpaaWViews
namespace Go.Proofs.Ytneiomimjgfbpaa
open Go.RowKit Go.PlainAid

/-- Which fields a message of a kind has. -/
def hasOf (k : Int) : Int := if k = 1 then 3 else if k = 2 then 13 else if k = 3 then 52 else if k = 4 then 244 else if k = 5 ∨ k = 6 then 116 else if k = 7 then 308 else if k = 8 ∨ k = 9 then 84 else 512

set_option maxHeartbeats 800000 in
theorem fieldsOf_any (k : Int) (h1 : 1 ≤ k) (h2 : k ≤ 10) (w : World) : Calls Try.prog 69 #[.int .i64 k] w fun e w' => e = .returned (.int .u64 (hasOf k)) ∧ w' = w := by
  rcases (show k = 1 ∨ k = 2 ∨ k = 3 ∨ k = 4 ∨ k = 5 ∨ k = 6 ∨ k = 7 ∨ k = 8 ∨ k = 9 ∨ k = 10 from by omega) with rfl | rfl | rfl | rfl | rfl | rfl | rfl | rfl | rfl | rfl
  all_goals
    go_enter Try.func69, Try.ntmps69
    go_wp2
    go_ret
    exact ⟨rfl, rfl⟩
set_option maxHeartbeats 800000 in
theorem with_any (f x : Int) (w : World) : Calls Try.prog 70 #[.int .u64 f, .int .u64 x] w fun e w' => e = .returned (.bool (bits .and .u64 f x != 0)) ∧ w' = w := by
  go_enter Try.func70, Try.ntmps70
  go_wp2
  go_ret
  exact ⟨rfl, rfl⟩
def WPostR (hb : Nat) (out : List UInt8) (w : World) (r : Option (List UInt8)) (x : Value) (e : Ending) (w' : World) : Prop :=
  WStep hb w w' ∧ match r with
    | none => e = refused
    | some bs => e = .returned x ∧ ∃ v', WSt hb v' (out ++ bs) w'
end Go.Proofs.Ytneiomimjgfbpaa
