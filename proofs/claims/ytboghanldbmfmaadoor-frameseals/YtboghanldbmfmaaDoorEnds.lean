import Derived.Test.YtboghanldbmfmaaDoorBack
import Derived.Test.YtboghanldbmfmaaDoorTheory2
namespace Go.Proofs.YtboghanldbmfmaaDoor
open Go.RowKit

theorem src_take {w : World} {g : Nat} {bs : List UInt8} (h : Row w g bs) (k : Nat) : Src w (some ⟨g, 0, none⟩) (bs.take k) := fun _ =>
  ⟨_, rfl, fun j u hu => by
    rw [show (Addr.add ⟨g, 0, none⟩ j) = ⟨g, j, none⟩ from by unfold Addr.add; split <;> simp_all]
    refine h.cell j u ?_
    rw [List.getElem?_take] at hu
    split at hu
    · exact hu
    · cases hu⟩

/-- 'slot' tells some place within. -/
theorem slot_at (i N : Int) (n : Nat) (w : World) (hN : N = (n : Int)) (h0 : 0 < n) (h1 : n ≤ 100000) :
    Calls Tryd.prog 15 #[.int .i64 i, .int .i64 N] w fun x w' => ∃ k : Nat, k < n ∧ x = .returned (.int .i64 (k : Nat)) ∧ w' = w := by
  subst hN
  refine (slot_any i n w h0 h1).mono ?_
  rintro e w' ⟨rfl, rfl⟩
  have h2 := Int.emod_nonneg i (b := (n : Int)) (by omega)
  have h3 := Int.emod_lt_of_pos i (b := (n : Int)) (by omega)
  exact ⟨(i % (n : Int)).toNat, by omega, ret_i64 (by omega), rfl⟩

set_option maxHeartbeats 800000 in
theorem ends_walk (ao : Option Addr) (n cap : Nat) (ps : List UInt8) (cut : Int) (bo : Option Addr) (m cap2 : Nat) (more : List UInt8) (w : World)
    (hn : ps.length = n) (hx : n ≤ 9223372036854775807) (hnil : ao = none → n = 0 ∧ cap = 0) (hsrc : Src w ao ps)
    (hn2 : more.length = m) (hx2 : m ≤ 9223372036854775807) (hnil2 : bo = none → m = 0 ∧ cap2 = 0) (hsrc2 : Src w bo more) (hT : Tab w) :
    Calls Tryd.prog 7 #[.slice ao n cap, .int .i64 cut, .slice bo m cap2] w fun e w' => e = .returned (.bool true) ∧ Below w.heap.size w w' := by
  by_cases h1 : 4096 < n
  · go_enter Tryd.func7, Tryd.ntmps7
    go_wp2_with fail
    go_ret
    exact ⟨rfl, Below.refl _ _⟩
  by_cases h2 : 4096 < m
  · go_enter Tryd.func7, Tryd.ntmps7
    go_wp2_with fail
    go_ret
    exact ⟨rfl, Below.refl _ _⟩
  go_enter Tryd.func7, Tryd.ntmps7
  go_wp2_with fail
  refine (alive_any _ hT).mono ?_
  rintro e w1 ⟨rfl, hb1⟩
  go_wp2_with fail
  refine (sealed_any ao n cap ps _ hn (by omega) (tab_below hT hb1) hnil (src_keep hsrc hb1)).mono ?_
  rintro e w2 ⟨g, hg, rfl, hR2, hb2⟩
  have hb2' := hb1.trans (hb2.mono hb1.size)
  have hfl := frameOf_len ps
  clear hb2 hb1
  go_wp2_with fail
  refine (slot_at cut _ (n + 7) _ (by omega) (by omega) (by omega)).mono ?_
  rintro e w3 ⟨k, hk, rfl, rfl⟩
  have htk : ((frameOf ps).take k).length = k := by simp; omega
  have hc1 := take_code ps k (by omega) (by omega)
  have HC : Hid _ := hc1
  clear hc1
  go_wp2_with fail
  refine (open_bad _ k (n + 7) ((frameOf ps).take k) _ htk (by omega) (by omega) (src_take hR2 k) (tab_below hT hb2') 10 HC.out (by omega)).mono ?_
  rintro e w4 ⟨rfl, hb4⟩
  rw [show (((10 : Nat) : Int)) = (10 : Int) from rfl]
  have hR4 := row_below hR2 hb4
  have hb4' := hb2'.trans (hb4.mono hb2'.size)
  have hrs := row_src hR4
  clear hb4 hb2' hR2 HC
  go_wp2_with (first
    | (at_builtin; go_must (refine wpList_append_bytes rfl (.const (.slice none 0 0)) (.tmp 45) rfl w4.heap.size 0 _ [] rfl (World.ownsRow_nil _ _ _ _) _ (n + 7) (n + 7) (frameOf ps) rfl (by omega) (by intro h; cases h) hrs (by omega) (Nat.le_refl _) ?_))
    | fail)
  intro v5 w5 hown5 hg5
  have hb5 : Below w4.heap.size w4 w5 := (Below.refl _ _).grown hg5 (Nat.le_refl _) (fun k h => by cases h)
  have hb5' := hb4'.trans (hb5.mono hb4'.size)
  have hs5 := src_keep hsrc2 hb5'
  have hz45 := hb5.size
  have hz4 := hb4'.size
  clear hg5 hb5 hb4' hrs hR4
  go_wp2_with (first
    | (at_builtin; go_must (refine wpList_append_bytes rfl (.tmp 46) (.tmp 47) rfl w4.heap.size (n + 7) v5 (frameOf ps) rfl hown5 bo m cap2 more rfl hn2 hnil2 hs5 (by omega) (by exact hz45) ?_))
    | fail)
  intro v6 w6 hown6 hg6
  have hb6 : Below w4.heap.size w5 w6 := (Below.refl _ _).grown hg6 hz45 (fun k h => (hown5.lt k h).1)
  have hb6' := hb5'.trans (hb6.mono hz4)
  rw [← List.map_append] at hown6
  obtain ⟨ao6, cap6, rfl, hc6, _, hs6, hl6⟩ := own_src hown6
  have hT6 := tab_below hT hb6'
  have hsp := src_keep hsrc hb6'
  clear hown6 hown5 hg6 hb6 hb5' hs5 hsrc hsrc2 hT
  by_cases hm0 : m = 0
  · have hmore : more = [] := List.eq_nil_of_length_eq_zero (by omega)
    subst hmore
    subst hm0
    rw [List.append_nil] at hs6 hl6
    have hc0 := frame_code ps (by omega)
    have HB : Hid _ := frame_body ps
    have HC : Hid _ := hc0
    clear hc0
    go_wp2_with fail
    refine (open_good ao6 _ cap6 (frameOf ps) _ hl6 (by omega) hc6 hs6 hT6 HC.out n (by omega)).mono ?_
    rintro e w7 ⟨rfl, hR7, hb7⟩
    rw [HB.out] at hR7
    have hs7 := src_keep hsp hb7
    have hb7' := hb6'.trans (hb7.mono hb6'.size)
    clear hb7 hsp hs6
    go_wp2_with (first
      | (go_at_call 11; refine (num_any _ _).mono ?_; rintro e w8 ⟨rfl, rfl⟩)
      | (go_at_call 14; refine (same_any _ _ _ _ _ _ ps ps _ (by omega) (by omega) (by exact row_src hR7) (by exact hs7)).mono ?_; rintro e w8 ⟨rfl, rfl⟩))
    go_ret
    refine ⟨?_, hb7'⟩
    simp
  · have hc0 := more_code ps more (by omega) (by omega)
    have HC : Hid _ := hc0
    clear hc0
    have hmb : (((m : Int) == 0)) = false := by rw [beq_eq_false_iff_ne]; omega
    go_wp2_with fail
    refine (open_bad ao6 _ cap6 (frameOf ps ++ more) _ hl6 (by omega) hc6 hs6 hT6 10 HC.out (by omega)).mono ?_
    rintro e w7 ⟨rfl, hb7⟩
    rw [show (((10 : Nat) : Int)) = (10 : Int) from rfl]
    have hb7' := hb6'.trans (hb7.mono hb6'.size)
    clear hb7 hsp hs6
    go_wp2_with (go_at_call 11; refine (num_any _ _).mono ?_; rintro e w8 ⟨rfl, rfl⟩)
    go_ret
    exact ⟨rfl, hb7'⟩
end Go.Proofs.YtboghanldbmfmaaDoor
