import Derived.Test.YtgohjkamikpdcaaPlA
namespace Go.Proofs.Ytgohjkamikpdcaa
open Go.RowKit Go.PlainAid
set_option linter.unusedVariables false
set_option linter.unusedSimpArgs false
theorem late_start {L kb : Nat} {w : World} (h : Blk w kb #[.bool true, .slice none 0 0, .slice none 0 0, .slice none 0 0, .slice none 0 0, .slice none 0 0, .slice none 0 0] 44) (hL : L ≤ kb) : (late L kb).Inv ⟨.slice none 0 0, .slice none 0 0, .slice none 0 0, .slice none 0 0, [], []⟩ w :=
  ⟨h, World.ownsRow_nil _ _ _ _, World.ownsRow_nil _ _ _ _, (fun e he => by cases he), (fun e he => by cases he), (fun e he => by cases he), (fun g e => by cases e), List.Pairwise.nil, World.ownsRow_nil _ _ _ _, World.ownsRow_nil _ _ _ _, (fun e he => by cases he), (fun e he => by cases he), (fun e he => by cases he), (fun g e => by cases e), List.Pairwise.nil, hL⟩
theorem early_all {L kb : Nat} (ao : Option Addr) (n c : Nat) (xs : List AV) (w : World) (hI : (early L kb).Inv es0 w) (hx : AL L w ao xs) (hl : xs.length = n) (hn : n ≤ 1048576) :
    Calls Try.prog 16 #[.slice ao n c, .pointer (some ⟨kb, 0, none⟩)] w fun r w' => r = .returned (.bool true) ∧ Below L w w' :=
  playedAll_any (early L kb) (fun s w h _ => (whole_early w h.1 h.2.1 h.2.2).mono fun r w' ⟨hr, q, hq⟩ => ⟨hr, by rw [hq]; exact (Chg.refl _ _).drewN q⟩) ao n c xs w hI hx hl hn rfl
theorem late_all {L kb : Nat} (ao : Option Addr) (n c : Nat) (xs : List AV) (w : World) (hI : (late L kb).Inv ⟨.slice none 0 0, .slice none 0 0, .slice none 0 0, .slice none 0 0, [], []⟩ w) (hx : AL L w ao xs) (hl : xs.length = n) (hn : n ≤ 1048576) :
    Calls Try.prog 16 #[.slice ao n c, .pointer (some ⟨kb, 0, none⟩)] w fun r w' => r = .returned (.bool true) ∧ Below L w w' :=
  playedAll_any (late L kb) (fun s w h hc => whole_late w h (by have : s.e.length + s.r.length ≤ 50000000000 := hc; omega) (by have : s.e.length + s.r.length ≤ 50000000000 := hc; omega)) ao n c xs w hI hx hl hn rfl
set_option maxRecDepth 100000 in
set_option maxHeartbeats 1600000 in
/-- ShareAll. -/
theorem all_law (ao : Option Addr) (n c : Nat) (xs : List AV) (W : World) (hx : AL W.heap.size W ao xs) (hl : xs.length = n) (hn : n ≤ 1048576) :
    Calls Try.prog 8 #[.slice ao n c] W fun r w' => r = .returned (.bool true) ∧ Below W.heap.size W w' := by
  have hab := able_any W
  have HX : Hid _ := hx
  have HL : Hid _ := hl
  have HN : Hid _ := hn
  clear hx hl hn
  go_enter Try.func8, Try.ntmps8
  go_wp2_with fail
  refine hab.mono ?_
  rintro e w1 ⟨rfl, hb1⟩
  have hz1 := hb1.size
  have hbx : Below W.heap.size W (w1.alloc (.cells #[.bool false, .slice none 0 0, .slice none 0 0, .slice none 0 0, .slice none 0 0, .slice none 0 0, .slice none 0 0] 44)) := hb1.alloc hz1 _
  have hI1 : (early W.heap.size w1.heap.size).Inv es0 (w1.alloc (.cells #[.bool false, .slice none 0 0, .slice none 0 0, .slice none 0 0, .slice none 0 0, .slice none 0 0, .slice none 0 0] 44)) := early_start (heap_alloc_new w1 _) hz1
  have h1 := early_all ao n c xs _ hI1 (HX.out.below hbx) HL.out HN.out
  have HB : Hid _ := hbx
  have H1 : Hid _ := h1
  clear hab hb1 hbx hI1 h1
  go_wp2_with fail
  refine Calls.mono H1.out ?_
  rintro e2 w2 ⟨rfl, hb2⟩
  have hB2 : Below W.heap.size W w2 := HB.out.trans hb2
  have hz2 := hB2.size
  have hbx : Below W.heap.size W (w2.alloc (.cells #[.bool true, .slice none 0 0, .slice none 0 0, .slice none 0 0, .slice none 0 0, .slice none 0 0, .slice none 0 0] 44)) := hB2.alloc hz2 _
  have hI2 : (late W.heap.size w2.heap.size).Inv ⟨.slice none 0 0, .slice none 0 0, .slice none 0 0, .slice none 0 0, [], []⟩ (w2.alloc (.cells #[.bool true, .slice none 0 0, .slice none 0 0, .slice none 0 0, .slice none 0 0, .slice none 0 0, .slice none 0 0] 44)) := late_start (heap_alloc_new w2 _) hz2
  have H2 : Hid _ := late_all ao n c xs _ hI2 (HX.out.below hbx) HL.out HN.out
  have HB2 : Hid _ := hbx
  clear hb2 hB2 hI2 hbx H1 HB
  go_wp2_with fail
  refine Calls.mono H2.out ?_
  rintro e3 w3 ⟨rfl, hb3⟩
  have HF : Hid (Below W.heap.size W w3) := HB2.out.trans hb3
  clear hb3 H2 HB2
  go_wp2_with fail
  go_ret
  exact ⟨rfl, HF.out⟩
end Go.Proofs.Ytgohjkamikpdcaa
