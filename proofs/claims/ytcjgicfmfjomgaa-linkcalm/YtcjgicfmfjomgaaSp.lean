import Derived.Test.YtcjgicfmfjomgaaSp00
import Derived.Test.YtcjgicfmfjomgaaSp01
import Derived.Test.YtcjgicfmfjomgaaSp02
import Derived.Test.YtcjgicfmfjomgaaSp03
import Derived.Test.YtcjgicfmfjomgaaSp10
import Derived.Test.YtcjgicfmfjomgaaSp11
import Derived.Test.YtcjgicfmfjomgaaSp12
import Derived.Test.YtcjgicfmfjomgaaSp13
namespace Go.Proofs.Ytcjgicfmfjomgaa
open Go.RowKit Go.PlainAid Go.MapKept
/-- One thing that happens to a line. -/
theorem step_any {L xb n t : Nat} {S : Ln} {col : Nat → Nat} {win : Nat → Nat} (kd who aa : Int) (v : Value) (s : List UInt8) (w : World) (hkb : -9223372036854775808 ≤ kd ∧ kd ≤ 9223372036854775807) (hwb : -9223372036854775808 ≤ who ∧ who ≤ 9223372036854775807) (hab : -9223372036854775808 ≤ aa ∧ aa ≤ 9223372036854775807) (h : LNM L xb S col w) (hI : LInv S win n t) (ht : t + 1 ≤ 400) (hsn : S.sent.length ≤ 400) (hv : ∀ wz, Below L w wz → By wz v s) (hsl : s.length ≤ 140737488351232) :
    Calls Try.prog 22 #[.pointer (some ⟨xb, 0, none⟩), .agg #[.int .i64 kd, .int .i64 who, .int .i64 aa, v], .agg #[.int .i64 (win 0 : Int), .int .i64 (win 1 : Int)]] w fun e w' => e = .returned (.bool true) ∧ ∃ S' col', LNM L xb S' col' w' ∧ LInv S' win n (t + 1) ∧ S'.sent.length ≤ 400 ∧ Below L w w' ∧ (∀ k, k < w.heap.size → 8 ≤ col k → w'.heap[k]? = w.heap[k]?) ∧ ∀ k, k < w.heap.size → col' k = col k := by
  have h1 := wl_lt who (m := 2) (by omega)
  have h2 := wl_lt kd (m := 4) (by omega)
  rcases (by omega : wl who 2 = 0 ∨ wl who 2 = 1) with e1 | e1
  · rcases (by omega : wl kd 4 = 0 ∨ wl kd 4 = 1 ∨ wl kd 4 = 2 ∨ wl kd 4 = 3) with e2 | e2 | e2 | e2
    · exact step_00 kd who aa v s w hkb hwb hab h hI ht hsn hv hsl e1 e2
    · exact step_01 kd who aa v s w hkb hwb hab h hI ht hsn hv hsl e1 e2
    · exact step_02 kd who aa v s w hkb hwb hab h hI ht hsn hv hsl e1 e2
    · exact step_03 kd who aa v s w hkb hwb hab h hI ht hsn hv hsl e1 e2
  · rcases (by omega : wl kd 4 = 0 ∨ wl kd 4 = 1 ∨ wl kd 4 = 2 ∨ wl kd 4 = 3) with e2 | e2 | e2 | e2
    · exact step_10 kd who aa v s w hkb hwb hab h hI ht hsn hv hsl e1 e2
    · exact step_11 kd who aa v s w hkb hwb hab h hI ht hsn hv hsl e1 e2
    · exact step_12 kd who aa v s w hkb hwb hab h hI ht hsn hv hsl e1 e2
    · exact step_13 kd who aa v s w hkb hwb hab h hI ht hsn hv hsl e1 e2
end Go.Proofs.Ytcjgicfmfjomgaa
