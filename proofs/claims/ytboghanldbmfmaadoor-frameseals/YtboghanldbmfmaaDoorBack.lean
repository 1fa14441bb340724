import Derived.Test.YtboghanldbmfmaaDoorAlive
import Derived.Test.YtboghanldbmfmaaDoorTheory
namespace Go.Proofs.YtboghanldbmfmaaDoor
open Go.RowKit

theorem src_keep {w w1 : World} {ao : Option Addr} {ps : List UInt8} (hs : Src w ao ps) (hb : Below w.heap.size w w1) : Src w1 ao ps := src_below rfl hb hs

set_option maxHeartbeats 400000 in
theorem back_walk (ao : Option Addr) (n cap : Nat) (ps : List UInt8) (w : World) (hn : ps.length = n) (hx : n ≤ 9223372036854775807) (hnil : ao = none → n = 0 ∧ cap = 0) (hsrc : Src w ao ps) (hT : Tab w) :
    Calls Tryd.prog 3 #[.slice ao n cap] w fun e w' => e = .returned (.bool true) ∧ Below w.heap.size w w' := by
  by_cases h1 : 65536 < n
  · go_enter Tryd.func3, Tryd.ntmps3
    go_wp2_with fail
    go_ret
    exact ⟨rfl, Below.refl _ _⟩
  by_cases h2 : 4096 < n
  · go_enter Tryd.func3, Tryd.ntmps3
    go_wp2_with fail
    refine (alive_any _ hT).mono ?_
    rintro e w1 ⟨rfl, hb1⟩
    go_wp2_with fail
    refine (seal_long ao n cap _ h2 hx).mono ?_
    rintro e w2 ⟨rfl, rfl⟩
    go_wp2_with (go_at_call 11; refine (num_any _ _).mono ?_; rintro e w3 ⟨rfl, rfl⟩)
    go_ret
    exact ⟨rfl, hb1⟩
  · go_enter Tryd.func3, Tryd.ntmps3
    go_wp2_with fail
    refine (alive_any _ hT).mono ?_
    rintro e w1 ⟨rfl, hb1⟩
    go_wp2_with fail
    refine (sealed_any ao n cap ps _ hn (by omega) (tab_below hT hb1) hnil (src_keep hsrc hb1)).mono ?_
    rintro e w2 ⟨g, hg, rfl, hR2, hb2⟩
    have hb2' := hb1.trans (hb2.mono hb1.size)
    have hfl := frameOf_len ps
    have hfc := frame_code ps (by omega)
    have hfb := frame_body ps
    have HC : Hid _ := hfc
    have HB : Hid _ := hfb
    clear hfc hfb
    go_wp2_with fail
    refine (open_good _ (n + 7) (n + 7) (frameOf ps) _ (by omega) (by omega) (Nat.le_refl _) (row_src hR2) (tab_below hT hb2') HC.out n (by omega)).mono ?_
    rintro e w3 ⟨rfl, hR3, hb3⟩
    rw [HB.out] at hR3
    have hb3' := hb2'.trans (hb3.mono hb2'.size)
    have hs3 := src_keep hsrc hb3'
    clear hsrc hb2 hb3
    go_wp2_with (first
      | (go_at_call 11; refine (num_any _ _).mono ?_; rintro e w4 ⟨rfl, rfl⟩)
      | (go_at_call 14; refine (same_any _ _ _ _ _ _ ps ps _ (by omega) (by omega) (by exact row_src hR3) (by exact hs3)).mono ?_; rintro e w4 ⟨rfl, rfl⟩))
    go_ret
    refine ⟨?_, hb3'⟩
    simp
end Go.Proofs.YtboghanldbmfmaaDoor
