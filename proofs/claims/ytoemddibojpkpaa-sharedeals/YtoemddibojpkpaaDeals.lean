import Derived.Test.YtoemddibojpkpaaP2
import Derived.Test.YtoemddibojpkpaaAsks
namespace Go.Proofs.Ytoemddibojpkpaa
open Go.RowKit Go.PlainAid
set_option linter.unusedVariables false
set_option linter.unusedSimpArgs false
def es0 : ES := ⟨.slice none 0 0, .slice none 0 0, .slice none 0 0, .slice none 0 0, [], []⟩
theorem early_start {L kb : Nat} {w : World} (h : Blk w kb #[.bool false, .slice none 0 0, .slice none 0 0, .slice none 0 0, .slice none 0 0, .slice none 0 0, .slice none 0 0] 44) (hL : L ≤ kb) : (early L kb).Inv es0 w :=
  ⟨h, World.ownsRow_nil _ _ _ _, World.ownsRow_nil _ _ _ _, (fun e he => by cases he), World.ownsRow_nil _ _ _ _, World.ownsRow_nil _ _ _ _, (fun e he => by cases he), (fun e he => by cases he), (fun g e => by cases e), hL⟩
theorem es0_bl {L kb k : Nat} (h : (early L kb).bl es0 k) : k = kb := by
  rcases h with q | q | q | q | q | ⟨x, hx, q⟩ | ⟨x, hx, q⟩
  · exact q
  · cases q
  · cases q
  · cases q
  · cases q
  · cases hx
  · cases hx
set_option maxRecDepth 100000 in
set_option maxHeartbeats 1600000 in
theorem deals_law (total : Int) (htw : IntKind.i64.wrap total = total) (ao : Option Addr) (n c : Nat) (zs : List Int) (W : World) (hl : zs.length = n) (hnil : ao = none → n = 0 ∧ c = 0) (hx : FromI W ao zs) (hn : n * 8 ≤ 140737488351232) :
    Calls Try.prog 6 #[.int .i64 total, .slice ao n c] W fun r w' => r = .returned (.bool true) ∧ Below W.heap.size W w' := by
  have hB0 : Below W.heap.size W (W.alloc keep0) := (Below.refl _ _).alloc (Nat.le_refl _) _
  have hab := able_any (W.alloc keep0)
  have HK0 : Hid (Blk (W.alloc keep0) W.heap.size #[.bool false, .slice none 0 0, .slice none 0 0, .slice none 0 0, .slice none 0 0, .slice none 0 0, .slice none 0 0] 44) := heap_alloc_new W _
  have HX : Hid (FromI W ao zs) := hx
  have HNIL : Hid (ao = none → n = 0 ∧ c = 0) := hnil
  have HB0 : Hid _ := hB0
  clear hx hnil hB0
  unfold keep0 at hab HB0 HK0
  go_enter Try.func6, Try.ntmps6
  go_wp2_with fail
  refine hab.mono ?_
  rintro e w1 ⟨rfl, hb1⟩
  have HB1 : Hid (Below W.heap.size W w1) := HB0.out.trans (hb1.mono (by simp))
  have hI : (early W.heap.size W.heap.size).Inv es0 w1 := early_start (Blk.below HK0.out hb1 (by simp)) (Nat.le_refl _)
  have h1 := played1 (early W.heap.size W.heap.size) (c := c) total 0 htw (by decide) w1 hI hl HNIL.out (HX.out.all HB1.out) (by omega) (fun h0 b off e hb => by subst e; have := HX.out.lt h0; have := es0_bl hb; omega) (show 0 + 0 + 18 ≤ 1000000000000 by decide)
  clear hb1 hab HB0 hI
  go_wp2_with fail
  refine h1.mono ?_
  rintro e w2 ⟨rfl, s', _, _, hch, _⟩
  have HB2 : Hid (Below W.heap.size W w2) := HB1.out.trans (hch.below HB1.out.size (fun k hk => by have := es0_bl hk; omega))
  clear hch h1
  go_wp2
  go_ret
  exact ⟨rfl, HB2.out⟩
set_option maxRecDepth 100000 in
set_option maxHeartbeats 1600000 in
theorem splits_law (down up : Int) (hdw : IntKind.i64.wrap down = down) (huw : IntKind.i64.wrap up = up) (ao : Option Addr) (n c : Nat) (zs : List Int) (W : World) (hl : zs.length = n) (hnil : ao = none → n = 0 ∧ c = 0) (hx : FromI W ao zs) (hn : n * 8 ≤ 140737488351232) :
    Calls Try.prog 7 #[.int .i64 down, .int .i64 up, .slice ao n c] W fun r w' => r = .returned (.bool true) ∧ Below W.heap.size W w' := by
  have hB0 : Below W.heap.size W (W.alloc keep0) := (Below.refl _ _).alloc (Nat.le_refl _) _
  have hab := able_any (W.alloc keep0)
  have HK0 : Hid (Blk (W.alloc keep0) W.heap.size #[.bool false, .slice none 0 0, .slice none 0 0, .slice none 0 0, .slice none 0 0, .slice none 0 0, .slice none 0 0] 44) := heap_alloc_new W _
  have HX : Hid (FromI W ao zs) := hx
  have HNIL : Hid (ao = none → n = 0 ∧ c = 0) := hnil
  have HB0 : Hid _ := hB0
  clear hx hnil hB0
  unfold keep0 at hab HB0 HK0
  go_enter Try.func7, Try.ntmps7
  go_wp2_with fail
  refine hab.mono ?_
  rintro e w1 ⟨rfl, hb1⟩
  have HB1 : Hid (Below W.heap.size W w1) := HB0.out.trans (hb1.mono (by simp))
  have hI : (early W.heap.size W.heap.size).Inv es0 w1 := early_start (Blk.below HK0.out hb1 (by simp)) (Nat.le_refl _)
  have h1 := played2 (early W.heap.size W.heap.size) (c := c) down up hdw huw w1 hI hl HNIL.out (HX.out.all HB1.out) (by omega) (fun h0 b off e hb => by subst e; have := HX.out.lt h0; have := es0_bl hb; omega) (show 0 + 0 + 18 ≤ 1000000000000 by decide)
  clear hb1 hab HB0 hI
  go_wp2_with fail
  refine h1.mono ?_
  rintro e w2 ⟨rfl, s', _, _, hch, _⟩
  have HB2 : Hid (Below W.heap.size W w2) := HB1.out.trans (hch.below HB1.out.size (fun k hk => by have := es0_bl hk; omega))
  clear hch h1
  go_wp2
  go_ret
  exact ⟨rfl, HB2.out⟩
end Go.Proofs.Ytoemddibojpkpaa
