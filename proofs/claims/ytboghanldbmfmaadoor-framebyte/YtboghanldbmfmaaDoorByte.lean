import Derived.Test.YtboghanldbmfmaaDoorEnds
namespace Go.Proofs.YtboghanldbmfmaaDoor
open Go.RowKit

set_option maxHeartbeats 800000 in
theorem byte_walk (ao : Option Addr) (n cap : Nat) (ps : List UInt8) (at' : Int) (a : UInt8) (w : World)
    (hn : ps.length = n) (hx : n ≤ 9223372036854775807) (hnil : ao = none → n = 0 ∧ cap = 0) (hsrc : Src w ao ps) (hT : Tab w) :
    Calls Tryd.prog 5 #[.slice ao n cap, .int .i64 at', .int .u8 (a.toNat : Nat)] w fun e w' => e = .returned (.bool true) ∧ Below w.heap.size w w' := by
  by_cases h1 : 4096 < n
  · go_enter Tryd.func5, Tryd.ntmps5
    go_wp2_with fail
    go_ret
    exact ⟨rfl, Below.refl _ _⟩
  go_enter Tryd.func5, Tryd.ntmps5
  go_wp2_with fail
  refine (alive_any _ hT).mono ?_
  rintro e w1 ⟨rfl, hb1⟩
  go_wp2_with fail
  refine (sealed_any ao n cap ps _ hn (by omega) (tab_below hT hb1) hnil (src_keep hsrc hb1)).mono ?_
  rintro e w2 ⟨g, hg, rfl, hR2, hb2⟩
  have hb2' := hb1.trans (hb2.mono hb1.size)
  have hfl := frameOf_len ps
  have hgw : w.heap.size ≤ g := Nat.le_trans hb1.size hg
  clear hb2 hb1 hg
  go_wp2_with fail
  refine (slot_at at' _ (n + 7) _ (by omega) (by omega) (by omega)).mono ?_
  rintro e w3 ⟨k, hk, rfl, rfl⟩
  have hgk := getD_some (frameOf ps) k (by omega)
  have hc := hR2.cell k _ hgk
  have hfz := hR2.frozen k
  have hR3 := hR2.set k ((frameOf ps).getD k 0 + a)
  have hb3 := hb2'.setCell (p := ⟨g, k, none⟩) hgw (B ((frameOf ps).getD k 0 + a))
  have hv : ((((frameOf ps).getD k 0).toNat : Int) + (a.toNat : Int)) % 256 = (((frameOf ps).getD k 0 + a).toNat : Int) := by
    rw [UInt8.toNat_add]; omega
  have hy : a ≠ 0 → openCode ((frameOf ps).set k ((frameOf ps).getD k 0 + a)) ≠ 0 := fun h => byte_code ps k _ (by omega) (by omega) (add_ne _ _ h)
  have h0 : a = 0 → (frameOf ps).set k ((frameOf ps).getD k 0 + a) = frameOf ps := by
    rintro rfl
    rw [UInt8.add_zero]
    apply List.ext_getElem?
    intro j
    rw [List.getElem?_set]
    split
    · rename_i e; subst e; rw [if_pos (by omega), hgk]
    · rfl
  have hsl : ((frameOf ps).set k ((frameOf ps).getD k 0 + a)).length = n + 7 := by rw [List.length_set]; omega
  have hxb := byte_lt ((frameOf ps).getD k 0)
  have hab := byte_lt a
  have hzb := byte_lt ((frameOf ps).getD k 0 + a)
  have hT3 := tab_below hT hb3
  have hsp := src_keep hsrc hb3
  have hat : a = 0 ↔ a.toNat = 0 := by rw [← UInt8.toNat_inj]; rfl
  simp only [B] at hc hR3 hb3 hT3 hsp
  generalize (frameOf ps).set k ((frameOf ps).getD k 0 + a) = F at *
  generalize ((frameOf ps).getD k 0 + a).toNat = z at *
  generalize ((frameOf ps).getD k 0).toNat = x at *
  clear hgk hR2 hb2' hT hsrc
  generalize a.toNat = av at *
  by_cases ha : a = 0
  · have hF0 := h0 ha
    rw [hF0] at hR3
    have hav : av = 0 := hat.1 ha
    have hb : ((av : Int) == 0) = true := by rw [beq_iff_eq]; omega
    have HB : Hid _ := frame_body ps
    have HCC : Hid _ := frame_code ps (by omega)
    clear h0 hy hF0 hat ha hav hsl
    go_wp2_with fail
    refine (open_good _ (n + 7) (n + 7) (frameOf ps) _ (by omega) (by omega) (Nat.le_refl _) (row_src hR3) hT3 HCC.out n (by omega)).mono ?_
    rintro e w4 ⟨rfl, hR4, hb4⟩
    rw [HB.out, show (w3.setCell ⟨g, k, none⟩ (.int .u8 (z : Int))).heap.size = w3.heap.size from by simp [World.setCell]] at hR4
    have hs4 := src_keep hsp hb4
    have hb4' := hb3.trans (hb4.mono hb3.size)
    clear hb4 hsp hR3 hT3 hb3 hv
    go_wp2_with (first
      | (go_at_call 11; refine (num_any _ _).mono ?_; rintro e w8 ⟨rfl, rfl⟩)
      | (go_at_call 14; refine (same_any _ _ _ _ _ _ ps ps _ (by omega) (by omega) (by exact row_src hR4) (by exact hs4)).mono ?_; rintro e w8 ⟨rfl, rfl⟩))
    go_ret
    refine ⟨?_, hb4'⟩
    simp
  · have hcn := hy ha
    have hav : av ≠ 0 := fun h => ha (hat.2 h)
    have hb : ((av : Int) == 0) = false := by rw [beq_eq_false_iff_ne]; omega
    have hcc : openCode F ≤ 12 := by rcases code_cases F with h | h | h | h <;> omega
    obtain ⟨c, hcF⟩ : ∃ c, c = openCode F := ⟨_, rfl⟩
    rw [← hcF] at hcn hcc
    have HC : Hid _ := hcF
    have hcb : ((c : Int) != 0) = true := by rw [bne_iff_ne]; omega
    clear h0 hy hat ha hav hcF
    go_wp2_with fail
    refine (open_bad _ (n + 7) (n + 7) F _ hsl (by omega) (Nat.le_refl _) (row_src hR3) hT3 c HC.out.symm hcn).mono ?_
    rintro e w4 ⟨rfl, hb4⟩
    have hb4' := hb3.trans (hb4.mono hb3.size)
    clear hb4 hsp hR3 hT3 hb3 hv
    go_wp2_with (go_at_call 11; refine (num_any _ _).mono ?_; rintro e w8 ⟨rfl, rfl⟩)
    go_ret
    exact ⟨rfl, hb4'⟩
end Go.Proofs.YtboghanldbmfmaaDoor
