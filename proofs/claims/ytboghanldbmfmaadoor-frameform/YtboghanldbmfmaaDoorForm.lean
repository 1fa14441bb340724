import Derived.Test.YtboghanldbmfmaaDoorAlive
import Derived.Test.YtboghanldbmfmaaDoorTheory
import Derived.Test.YtboghanldbmfmaaDoorBack
namespace Go.Proofs.YtboghanldbmfmaaDoor
open Go.RowKit

set_option maxHeartbeats 400000 in
theorem form_walk (ao : Option Addr) (n cap : Nat) (bs : List UInt8) (w : World) (hn : bs.length = n) (hx : n ≤ 9223372036854775807) (hnil : ao = none → n = 0 ∧ cap = 0) (hsrc : Src w ao bs) (hT : Tab w) :
    Calls Tryd.prog 4 #[.slice ao n cap] w fun e w' => e = .returned (.bool true) ∧ Below w.heap.size w w' := by
  by_cases h1 : 65536 < n
  · go_enter Tryd.func4, Tryd.ntmps4
    go_wp2_with fail
    go_ret
    exact ⟨rfl, Below.refl _ _⟩
  go_enter Tryd.func4, Tryd.ntmps4
  go_wp2_with fail
  refine (alive_any _ hT).mono ?_
  rintro e w1 ⟨rfl, hb1⟩
  have hs1 := src_keep hsrc hb1
  go_wp2_with (first
    | (at_builtin; go_must (refine wpList_append_bytes rfl _ _ rfl w1.heap.size 0 _ [] rfl (World.ownsRow_nil _ _ _ _) ao n cap bs rfl hn hnil hs1 (by omega) (Nat.le_refl _) ?_))
    | fail)
  intro v2 w2 hown2 hg2
  have hb2 : Below w1.heap.size w1 w2 := (Below.refl _ _).grown hg2 (Nat.le_refl _) (fun k h => by cases h)
  obtain ⟨ao2, cap2, rfl, hc2, _, hs2, hl2⟩ := own_src hown2
  have hb2' := hb1.trans (hb2.mono hb1.size)
  clear hown2 hg2 hb2 hs1
  rcases code_cases bs with hc | hc | hc | hc
  · obtain ⟨hf, hlb, hlen⟩ := code_frame bs hc
    go_wp2_with fail
    refine (open_good ao2 n cap2 bs _ hn (by omega) hc2 hs2 (tab_below hT hb2') hc (body bs).length (by omega)).mono ?_
    rintro e w3 ⟨rfl, hR3, hb3⟩
    have hb3' := hb2'.trans (hb3.mono hb2'.size)
    have HF : Hid _ := hf
    have hT3 := tab_below hT hb3'
    have hs3 := src_keep hsrc hb3'
    clear hf hc hb3 hb2' hs2 hT hsrc
    go_wp2_with (first
      | (go_at_call 11; refine (num_any _ _).mono ?_; rintro e w4 ⟨rfl, rfl⟩))
    refine (sealed_any _ _ _ (body bs) _ rfl hlb hT3 (by intro h; cases h) (row_src hR3)).mono ?_
    rintro e w5 ⟨g, hg, rfl, hR5, hb5⟩
    have hb5' := hb3'.trans (hb5.mono hb3'.size)
    rw [HF.out] at hR5
    have hs5 := src_keep hs3 hb5
    clear hb5 hs3 hT3
    go_wp2_with (go_at_call 14; refine (same_any _ _ _ _ _ _ bs bs _ (by omega) (by omega) (by exact row_src hR5) (by exact hs5)).mono ?_; rintro e w6 ⟨rfl, rfl⟩)
    go_ret
    refine ⟨?_, hb5'⟩
    simp
  · go_wp2_with fail
    refine (open_bad ao2 n cap2 bs _ hn (by omega) hc2 hs2 (tab_below hT hb2') 10 hc (by omega)).mono ?_
    rintro e w3 ⟨rfl, hb3⟩
    rw [show (((10 : Nat) : Int)) = (10 : Int) from rfl]
    go_wp2_with (go_at_call 11; refine (num_any _ _).mono ?_; rintro e w4 ⟨rfl, rfl⟩)
    go_ret
    exact ⟨rfl, hb2'.trans (hb3.mono hb2'.size)⟩
  · go_wp2_with fail
    refine (open_bad ao2 n cap2 bs _ hn (by omega) hc2 hs2 (tab_below hT hb2') 11 hc (by omega)).mono ?_
    rintro e w3 ⟨rfl, hb3⟩
    rw [show (((11 : Nat) : Int)) = (11 : Int) from rfl]
    go_wp2_with (go_at_call 11; refine (num_any _ _).mono ?_; rintro e w4 ⟨rfl, rfl⟩)
    go_ret
    exact ⟨rfl, hb2'.trans (hb3.mono hb2'.size)⟩
  · go_wp2_with fail
    refine (open_bad ao2 n cap2 bs _ hn (by omega) hc2 hs2 (tab_below hT hb2') 12 hc (by omega)).mono ?_
    rintro e w3 ⟨rfl, hb3⟩
    rw [show (((12 : Nat) : Int)) = (12 : Int) from rfl]
    go_wp2_with (go_at_call 11; refine (num_any _ _).mono ?_; rintro e w4 ⟨rfl, rfl⟩)
    go_ret
    exact ⟨rfl, hb2'.trans (hb3.mono hb2'.size)⟩
end Go.Proofs.YtboghanldbmfmaaDoor
