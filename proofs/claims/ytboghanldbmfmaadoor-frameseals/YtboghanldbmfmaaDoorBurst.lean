import Derived.Test.YtboghanldbmfmaaDoorEnds
import Derived.BigQuiet
namespace Go.Proofs.YtboghanldbmfmaaDoor
open Go.RowKit

theorem bits_xor_u8 (x y : UInt8) : bits BinOp.xor IntKind.u8 (x.toNat : Int) (y.toNat : Int) = ((x ^^^ y).toNat : Int) := by
  have hx := byte_lt x
  have hy := byte_lt y
  have ha' : x.toNat % 2 ^ IntKind.u8.bits = x.toNat := Nat.mod_eq_of_lt hx
  have hb' : y.toNat % 2 ^ IntKind.u8.bits = y.toNat := Nat.mod_eq_of_lt hy
  simp only [bits, BitVec.ofInt_natCast, BitVec.toNat_xor, BitVec.toNat_ofNat, ha', hb', UInt8.toNat_xor]
  have : x.toNat ^^^ y.toNat < 2 ^ 8 := Nat.xor_lt_two_pow hx hy
  rw [IntKind.wrap_u8]
  omega

def chg (es : List UInt8) (i : Nat) : Bool := (List.range i).any fun j => es.getD j 0 != 0
theorem chg_succ (es : List UInt8) (i : Nat) : chg es (i + 1) = (chg es i || (es.getD i 0 != 0)) := by simp [chg, List.range_succ]
theorem chg_true {es : List UInt8} {i : Nat} (h : chg es i = true) : ∃ j, j < i ∧ es.getD j 0 ≠ 0 := by
  simp only [chg, List.any_eq_true, List.mem_range] at h
  obtain ⟨j, hj, hn⟩ := h
  exact ⟨j, hj, by simpa using hn⟩
theorem chg_false {es : List UInt8} {i : Nat} (h : chg es i = false) : ∀ j, j < i → es.getD j 0 = 0 := by
  intro j hj
  simp only [chg, List.any_eq_false, List.mem_range] at h
  have := h j hj
  simpa using this

set_option maxHeartbeats 1000000 in
theorem burst_walk (ao : Option Addr) (n cap : Nat) (ps : List UInt8) (at' : Int) (e0 e1 e2 e3 : UInt8) (w : World)
    (hn : ps.length = n) (hx : n ≤ 9223372036854775807) (hnil : ao = none → n = 0 ∧ cap = 0) (hsrc : Src w ao ps) (hT : Tab w) :
    Calls Tryd.prog 6 #[.slice ao n cap, .int .i64 at', .agg #[B e0, B e1, B e2, B e3]] w fun e w' => e = .returned (.bool true) ∧ Below w.heap.size w w' := by
  by_cases h1 : 4096 < n
  · go_enter Tryd.func6, Tryd.ntmps6
    go_wp2_with fail
    go_ret
    exact ⟨rfl, (Below.refl _ _).alloc (Nat.le_refl _) _⟩
  go_enter Tryd.func6, Tryd.ntmps6
  go_wp2_with fail
  have hb0 : Below w.heap.size w (w.alloc (.cells #[B e0, B e1, B e2, B e3] 34)) := (Below.refl _ _).alloc (Nat.le_refl _) _
  have hA0 : At (w.alloc (.cells #[B e0, B e1, B e2, B e3] 34)) w.heap.size 0 [e0, e1, e2, e3] := by
    intro j u hu
    rw [Nat.zero_add, World.cell?_alloc_mark]
    match j, hu with
    | 0, hu => cases hu; rfl
    | 1, hu => cases hu; rfl
    | 2, hu => cases hu; rfl
    | 3, hu => cases hu; rfl
    | j + 4, hu => simp at hu
  have hz0 : (w.alloc (.cells #[B e0, B e1, B e2, B e3] 34)).heap.size = w.heap.size + 1 := by simp
  generalize hes : [e0, e1, e2, e3] = es at *
  have hel : es.length = 4 := by rw [← hes]; rfl
  refine (alive_any _ (tab_below hT hb0)).mono ?_
  rintro e w1 ⟨rfl, hb1⟩
  rw [hz0] at hb1
  have hA1 : At w1 w.heap.size 0 es := fun j u hu => (hb1.cell (by simp)).trans (hA0 j u hu)
  have hb1' := hb0.trans (hb1.mono (Nat.le_succ _))
  have hz1 := hb1.size
  rw [hz0] at hz1
  clear hb0 hA0 hb1 hz0 hes
  go_wp2_with fail
  refine (sealed_any ao n cap ps _ hn (by omega) (tab_below hT hb1') hnil (src_keep hsrc hb1')).mono ?_
  rintro e w2 ⟨g, hg, rfl, hR2, hb2⟩
  have hb2' := hb1'.trans (hb2.mono hb1'.size)
  have hA2 : At w2 w.heap.size 0 es := fun j u hu => (hb2.cell (by simp; omega)).trans (hA1 j u hu)
  have hfl := frameOf_len ps
  clear hb2 hA1 hb1'
  have e3 : (n : Int) + 7 - 3 = ((n + 4 : Nat) : Int) := by omega
  go_wp2_with fail
  refine (slot_at at' _ (n + 4) _ (by omega) (by omega) (by omega)).mono ?_
  rintro e w3 ⟨k, hk, rfl, rfl⟩
  clear e3
  go_wp2_with fail
  go_loopw [11, 12] (fun c i wr => ∃ j : Nat, j ≤ 4 ∧ 3 + k + j ≤ n + 7 ∧ i = .int .i64 j ∧ c = .bool (chg es j) ∧ Row wr g (bl (frameOf ps) (3 + k) es j) ∧ Below g w3 wr) (fun _ i _ => 4 - (intOf i).toNat)
  case atStart => exact ⟨0, by omega, by omega, rfl, rfl, by rw [bl_zero]; exact hR2, Below.refl _ _⟩
  case round =>
    obtain ⟨j, hj4, hjn, rfl, rfl, hR, hbg⟩ := hrel
    by_cases hcond : j < 4 ∧ 3 + k + j < n + 7
    · obtain ⟨hlt, hlt2⟩ := hcond
      · have hcc := hA2 j _ (getD_some es j (by omega))
        rw [← hbg.cell (p := ⟨w.heap.size, 0 + j, none⟩) (by simp; omega), Nat.zero_add] at hcc
        have hblg := bl_get (frameOf ps) (3 + k) es j (3 + k + j) (by omega)
        rw [if_neg (by omega), UInt8.xor_zero] at hblg
        have hc := hR.cell _ _ hblg
        have hfz := hR.frozen (3 + k + j)
        have hR' := hR.set (3 + k + j) ((frameOf ps).getD (3 + k + j) 0 ^^^ es.getD j 0)
        rw [bl_succ] at hR'
        have hxor := bits_xor_u8 ((frameOf ps).getD (3 + k + j) 0) (es.getD j 0)
        have HC : Hid _ := chg_succ es j
        have hbne : (((es.getD j 0).toNat : Int) != 0) = (es.getD j 0 != 0) := by
          rw [Bool.eq_iff_iff, bne_iff_ne, bne_iff_ne]
          constructor
          · intro h1 h2; rw [h2] at h1; exact h1 rfl
          · intro h1 h2; exact h1 (UInt8.toNat_inj.1 (by simpa using h2))
        simp only [B] at hc hcc hR'
        clear hblg hR
        generalize ((frameOf ps).getD (3 + k + j) 0 ^^^ es.getD j 0).toNat = z at *
        have hxb := byte_lt ((frameOf ps).getD (3 + k + j) 0)
        generalize ((frameOf ps).getD (3 + k + j) 0).toNat = x at *
        generalize (es.getD j 0 != 0) = q at *
        have heb := byte_lt (es.getD j 0)
        generalize (es.getD j 0).toNat = ev at *
        have i1 : (0 : Int) ≤ 3 + (k : Int) + (j : Int) := by omega
        have i2 : 3 + (k : Int) + (j : Int) < (n : Int) + 7 := by omega
        have hzz : w.heap.size < w1.heap.size := by omega
        generalize chg es j = c0 at *
        have hb' : ∀ v, Below g w3 (wr.setCell ⟨g, 3 + k + j, none⟩ v) := fun v => hbg.setCell (Nat.le_refl _) v
        cases c0
        · go_wp2
          go_region
          go_wp2
          go_roundw
          case rel => exact ⟨j + 1, by omega, by omega, by go_num, by rw [HC.out, Bool.false_or], hR', (hb' _).drew⟩
          case measure => simp [intOf]; omega
        · go_wp2
          go_region
          go_wp2
          go_roundw
          case rel => exact ⟨j + 1, by omega, by omega, by go_num, by rw [HC.out, Bool.true_or], hR', (hb' _).drew⟩
          case measure => simp [intOf]; omega
    · have hbw : Below w.heap.size w wr := hb2'.trans (hbg.mono (by omega))
      have hTr := tab_below hT hbw
      have hsp := src_keep hsrc hbw
      have hbl := bl_len (frameOf ps) (3 + k) es j
      have hct : chg es j = true → openCode (bl (frameOf ps) (3 + k) es j) = 12 := fun h =>
        bl_code ps (3 + k) es j (by omega) (by omega) (by omega) hj4 (by omega) (chg_true h)
      have hcf : chg es j = false → bl (frameOf ps) (3 + k) es j = frameOf ps := fun h => bl_same _ _ _ _ (chg_false h)
      have HB : Hid _ := frame_body ps
      have HCC : Hid _ := frame_code ps (by omega)
      clear hR2 hb2' hA2 hbg hT hsrc
      generalize chg es j = c0 at *
      generalize bl (frameOf ps) (3 + k) es j = F at *
      have i1 : (0 : Int) ≤ 3 + (k : Int) + (j : Int) := by omega
      by_cases hlt : j < 4
      all_goals
        cases c0
        · have hF := hcf rfl
          subst hF
          clear hct hcf
          go_wp2_with fail
          refine (open_good _ (n + 7) (n + 7) (frameOf ps) _ (by omega) (by omega) (Nat.le_refl _) (row_src hR) hTr HCC.out n (by omega)).mono ?_
          rintro e w4 ⟨rfl, hR4, hb4⟩
          rw [HB.out] at hR4
          have hs4 := src_keep hsp hb4
          have hb4' := hbw.trans (hb4.mono hbw.size)
          clear hb4 hsp hR hTr
          go_wp2_with (first
            | (go_at_call 11; refine (num_any _ _).mono ?_; rintro e w8 ⟨rfl, rfl⟩)
            | (go_at_call 14; refine (same_any _ _ _ _ _ _ ps ps _ (by omega) (by omega) (by exact row_src hR4) (by exact hs4)).mono ?_; rintro e w8 ⟨rfl, rfl⟩))
          go_ret
          refine ⟨?_, hb4'⟩
          simp
        · have HC : Hid _ := hct rfl
          clear hct hcf
          go_wp2_with fail
          refine (open_bad _ (n + 7) (n + 7) F _ (by omega) (by omega) (Nat.le_refl _) (row_src hR) hTr 12 HC.out (by omega)).mono ?_
          rintro e w4 ⟨rfl, hb4⟩
          rw [show (((12 : Nat) : Int)) = (12 : Int) from rfl]
          have hb4' := hbw.trans (hb4.mono hbw.size)
          clear hb4 hsp hR hTr
          go_wp2_with (go_at_call 11; refine (num_any _ _).mono ?_; rintro e w8 ⟨rfl, rfl⟩)
          go_ret
          exact ⟨rfl, hb4'⟩
end Go.Proofs.YtboghanldbmfmaaDoor
