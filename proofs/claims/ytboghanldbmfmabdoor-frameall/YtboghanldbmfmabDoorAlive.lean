import Derived.Test.YtboghanldbmfmabDoorSmall
import Derived.Lib.SlBytesConst
namespace Go.Proofs.YtboghanldbmfmabDoor
open Go.RowKit

theorem tab_below {w w1 : World} (hT : Tab w) (hb : Below w.heap.size w w1) : Tab w1 := fun i hi => by
  have := hT i hi
  rw [← this]
  exact hb.cell (World.block_lt_of_cell? w _ this)
theorem row_below {w w1 : World} {g : Nat} {bs : List UInt8} (h : Row w g bs) (hb : Below w.heap.size w w1) : Row w1 g bs := by
  have hlt : g < w.heap.size := (Array.getElem?_eq_some_iff.1 h).1
  unfold Row at *
  rw [hb.block g hlt, h]
theorem row_new (w : World) (bs : List UInt8) : Row (w.alloc (.cells (bs.map B).toArray 5)) w.heap.size bs := heap_alloc_new w _

theorem open_good (ao : Option Addr) (n cap : Nat) (bs : List UInt8) (w : World) (hn : bs.length = n) (hm : n ≤ 100000) (hcap : n ≤ cap) (hsrc : Src w ao bs) (hT : Tab w) (hc : openCode bs = 0) (k : Nat) (hk : n - 7 = k) :
    Calls Tryd.prog 13 #[.slice ao n cap] w fun e w' => e = .returned (.tuple #[.slice (some ⟨w.heap.size, 0, none⟩) k k, .int .i64 0]) ∧ Row w' w.heap.size (body bs) ∧ Below w.heap.size w w' := by
  refine (open_any ao n cap bs w hn hm hcap hsrc hT).mono ?_
  rintro e w' ⟨v, rfl, hb, _, h0⟩
  obtain ⟨rfl, hR⟩ := h0 hc
  rw [hc, hk]
  exact ⟨rfl, hR, hb⟩
theorem open_bad (ao : Option Addr) (n cap : Nat) (bs : List UInt8) (w : World) (hn : bs.length = n) (hm : n ≤ 100000) (hcap : n ≤ cap) (hsrc : Src w ao bs) (hT : Tab w) (c : Nat) (hc : openCode bs = c) (h0 : c ≠ 0) :
    Calls Tryd.prog 13 #[.slice ao n cap] w fun e w' => e = .returned (.tuple #[.slice none 0 0, .int .i64 (c : Nat)]) ∧ Below w.heap.size w w' := by
  refine (open_any ao n cap bs w hn hm hcap hsrc hT).mono ?_
  rintro e w' ⟨v, rfl, hb, h1, _⟩
  rw [h1 (by omega), hc]
  exact ⟨rfl, hb⟩

def abc : List UInt8 := [97, 98, 99]
def good0 : List UInt8 := [1, 0, 0, 37, 179, 131, 254]
def bad0 : List UInt8 := [1, 0, 0, 37, 179, 131, 255]
theorem abc_frame : frameOf abc = [1, 3, 0, 97, 98, 99, 6, 144, 91, 247] := by decide +kernel
theorem good0_code : openCode good0 = 0 := by decide +kernel
theorem bad0_code : openCode bad0 = 12 := by decide +kernel

theorem src_mark (w : World) (bs : List UInt8) (C : Array Value) (fr : Nat × Nat) (hC : C = (bs.map B).toArray) : Src (w.alloc (.cells C 5 fr)) (some ⟨w.heap.size, 0, none⟩) bs := fun _ =>
  ⟨_, rfl, fun j u hu => by
    rw [show (Addr.add ⟨w.heap.size, 0, none⟩ j) = ⟨w.heap.size, j, none⟩ from by unfold Addr.add; split <;> simp_all]
    rw [World.cell?_alloc_mark, hC]
    simp [hu]⟩

set_option maxHeartbeats 800000 in
theorem alive_any (w : World) (hT : Tab w) :
    Calls Tryd.prog 5 #[] w fun e w' => e = .returned (.bool true) ∧ Below w.heap.size w w' := by
  have kc := fun (w : World) (C : Array Value) (n c : Nat) => Lib.run_convert_bytes_const (P := Tryd.prog) w 22 5 C n c Tryd.underlying22 Tryd.underlying5
  go_enter Tryd.func5, Tryd.ntmps5
  go_wp2_with fail
  have hb0 : Below w.heap.size w (w.alloc (.cells #[.int .u8 97, .int .u8 98, .int .u8 99] 5 (3, 4))) := (Below.refl _ _).alloc (Nat.le_refl _) _
  refine (seal_any _ 3 3 abc _ rfl (by omega) (tab_below hT hb0) (fun h => src_mark w abc _ (3, 4) rfl (by decide))).mono ?_
  rintro e w1 ⟨rfl, hR1, hb1⟩
  have hb1' : Below w.heap.size w w1 := hb0.trans (hb1.mono hb0.size)
  clear kc hb1 hb0
  rw [abc_frame] at hR1
  rw [show (w.alloc (.cells #[Value.int .u8 97, .int .u8 98, .int .u8 99] 5 (3, 4))).heap.size = w.heap.size + 1 from by simp] at hR1
  go_wp2_with fail
  have ha1 := (Below.refl w1.heap.size w1).alloc (Nat.le_refl _) (.cells #[.int .u8 1, .int .u8 0, .int .u8 0, .int .u8 37, .int .u8 179, .int .u8 131, .int .u8 254] 5)
  refine (open_good _ 7 7 good0 _ rfl (by omega) (by omega) (src_mark w1 good0 _ (0, 0) rfl) (tab_below (tab_below hT hb1') ha1) good0_code 0 rfl).mono ?_
  rintro e w2 ⟨rfl, _, hb2⟩
  have hb2' : Below w1.heap.size w1 w2 := ha1.trans (hb2.mono ha1.size)
  have hR2 := row_below hR1 hb2'
  have hb3' := hb1'.trans (hb2'.mono hb1'.size)
  clear hb2 ha1 hR1 hb2' hb1'
  go_wp2_with fail
  have ha1 := (Below.refl w2.heap.size w2).alloc (Nat.le_refl _) (.cells #[.int .u8 1, .int .u8 0, .int .u8 0, .int .u8 37, .int .u8 179, .int .u8 131, .int .u8 255] 5)
  refine (open_bad _ 7 7 bad0 _ rfl (by omega) (by omega) (src_mark w2 bad0 _ (0, 0) rfl) (tab_below (tab_below hT hb3') ha1) 12 bad0_code (by omega)).mono ?_
  rintro e w3 ⟨rfl, hb4⟩
  have hb4' : Below w2.heap.size w2 w3 := ha1.trans (hb4.mono ha1.size)
  have hR3 := row_below hR2 hb4'
  have hb5 := hb3'.trans (hb4'.mono hb3'.size)
  clear hb4 ha1 hR2 hb4' hb3'
  rw [show (((12 : Nat) : Int)) = (12 : Int) from rfl]
  have ha5 := (Below.refl w3.heap.size w3).alloc (Nat.le_refl _) (.cells #[.int .u8 1, .int .u8 3, .int .u8 0, .int .u8 97, .int .u8 98, .int .u8 99, .int .u8 6, .int .u8 144, .int .u8 91, .int .u8 247] 5)
  go_wp2_with (first
    | (go_at_call 14; refine (num_any _ _).mono ?_; rintro e w4 ⟨rfl, rfl⟩)
    | (go_at_call 15; refine (same_any _ _ _ _ _ _ [1, 3, 0, 97, 98, 99, 6, 144, 91, 247] [1, 3, 0, 97, 98, 99, 6, 144, 91, 247] _ rfl rfl (by exact row_src (row_below hR3 ha5)) (by exact src_mark _ [1, 3, 0, 97, 98, 99, 6, 144, 91, 247] _ (0, 0) rfl)).mono ?_; rintro e w4 ⟨rfl, rfl⟩))
  go_ret
  exact ⟨rfl, hb5.alloc hb5.size _⟩
end Go.Proofs.YtboghanldbmfmabDoor
