import Derived.Test.YtnphkmdanicemaaGreatDoorVApp
import Derived.Test.YtnphkmdanicemaaGreatDoorJP
import Derived.Test.YtnphkmdanicemaaGreatDoorJN
namespace Go.Proofs.YtnphkmdanicemaaGreatDoor
open Go.RowKit Go.PlainAid Go.MapKept
set_option linter.unusedVariables false
set_option linter.unusedSimpArgs false
def raboutS (n : List UInt8) (A : List Ent) : Nat → Int
  | 0 => 0
  | k + 1 => raboutS n A k + (lastD k n A).d
def raboutK (n : List UInt8) (A : List Ent) : Nat → Bool
  | 0 => false
  | k + 1 => raboutK n A k || decide (0 < (lastD k n A).v)
theorem raboutS_le {n : List UInt8} {A : List Ent} (h : ∀ k : Int, 0 ≤ (lastD k n A).d ∧ (lastD k n A).d ≤ 1099511627776) : ∀ k, 0 ≤ raboutS n A k ∧ raboutS n A k ≤ 1099511627776 * k
  | 0 => by simp [raboutS]
  | k + 1 => by
    have ih := raboutS_le h k
    have hd := h k
    simp only [raboutS]
    omega
set_option maxRecDepth 100000 in
set_option maxHeartbeats 1600000 in
theorem rabout_any {L rb N : Nat} {me : Int} {v : Value} {A : List Ent} (n : List UInt8) (w : World) (hV : RVw L rb me N v A w) (hN : N ≤ 16) (hL : A.length ≤ 100000) (hd : ∀ k : Int, 0 ≤ (lastD k n A).d ∧ (lastD k n A).d ≤ 1099511627776) :
    Calls Tryz.prog 57 #[.pointer (some ⟨rb, 0, none⟩), .string ⟨n.toArray⟩] w fun e w' => e = .returned (.tuple #[.int .i64 (raboutS n A N), .bool (raboutK n A N)]) ∧ Below w.heap.size w w' := by
  have k1 := hV.c1
  have HLE : Hid (∀ k, 0 ≤ raboutS n A k ∧ raboutS n A k ≤ 1099511627776 * k) := raboutS_le hd
  have HV : Hid (RVw L rb me N v A w) := hV
  clear hV hd
  go_enter Tryz.func57, Tryz.ntmps57
  go_wp2_with fail
  go_loopw [6, 7, 8] (fun s b i wr => ∃ q : Nat, q ≤ N ∧ i = .int .i64 q ∧ s = .int .i64 (raboutS n A q) ∧ b = .bool (raboutK n A q) ∧ Below w.heap.size w wr) (fun _ _ i _ => N - (intOf i).toNat)
  case atStart => exact ⟨0, Nat.zero_le _, rfl, rfl, rfl, Below.refl _ _⟩
  case round =>
    obtain ⟨q, hq, rfl, rfl, rfl, hbel⟩ := hrel
    have hV2 := HV.out.more hbel
    have k2 := hV2.c1
    by_cases hlt : q < N
    · have HLA : Hid _ := rlast_any (q : Int) n wr hV2 hL
      have l1 := HLE.out q
      have l2 := HLE.out (q + 1)
      have HA : Hid (raboutS n A (q + 1) = raboutS n A q + (lastD q n A).d) := rfl
      have HK : Hid (raboutK n A (q + 1) = (raboutK n A q || decide (0 < (lastD q n A).v))) := rfl
      rw [HA.out] at l2
      generalize raboutS n A q = s0 at *
      generalize raboutK n A q = b0 at *
      generalize lastD q n A = e0 at *
      have hw : IntKind.i64.wrap (s0 + e0.d) = s0 + e0.d := by rw [IntKind.wrap_i64]; omega
      have HB : Hid _ := hbel
      clear hbel hV2 l1 l2
      unfold viewV at HLA
      go_wp2_with fail
      refine Calls.mono HLA.out ?_
      rintro e w1 ⟨rfl, hb1⟩
      have HB1 : Hid (Below w.heap.size w w1) := HB.out.trans (hb1.mono HB.out.size)
      clear hb1 HLA
      have hgr : Below w1.heap.size w1 (w1.alloc (.cells #[.string ⟨e0.n.toArray⟩, .int .i64 e0.c, .int .i64 e0.rc, .int .i64 e0.v, .int .i64 e0.d, .int .i64 e0.u, .int .i64 e0.h] 105)) := (Below.refl _ _).alloc (Nat.le_refl _) _
      have HG : Hid _ := hgr
      clear hgr
      cases b0
      · go_wp2_with fail
        go_roundw
        case rel => exact ⟨q + 1, by omega, by go_num, by rw [HA.out], by rw [HK.out]; simp, HB1.out.trans (HG.out.mono HB1.out.size)⟩
        case measure => simp [intOf]; omega
      · go_wp2_with fail
        go_roundw
        case rel => exact ⟨q + 1, by omega, by go_num, by rw [HA.out], by rw [HK.out]; rfl, HB1.out.trans (HG.out.mono HB1.out.size)⟩
        case measure => simp [intOf]; omega
    · obtain rfl : q = N := by omega
      have HB : Hid _ := hbel
      clear hbel hV2
      go_wp2_with fail
      go_ret2
      exact ⟨rfl, HB.out⟩
def rknownL (nm : List UInt8) (A : List Ent) (n : Nat) : List (Int × Int) := (List.range n).map fun (k : Nat) => ((lastD k nm A).d, (lastD k nm A).u)
theorem rknownL_succ (nm : List UInt8) (A : List Ent) (n : Nat) : rknownL nm A (n + 1) = rknownL nm A n ++ [((lastD n nm A).d, (lastD n nm A).u)] := by simp [rknownL, List.range_succ]
set_option maxRecDepth 100000 in
set_option maxHeartbeats 1600000 in
theorem rknown_any {L rb N : Nat} {me : Int} {v : Value} {A : List Ent} (n : List UInt8) (w : World) (hV : RVw L rb me N v A w) (hN : N ≤ 16) (hL : A.length ≤ 100000) :
    Calls Tryz.prog 74 #[.pointer (some ⟨rb, 0, none⟩), .string ⟨n.toArray⟩] w fun e w' => ∃ u, e = .returned u ∧ w'.ownsRow w.heap.size 37 2 u N (flatR (rknownL n A N)) ∧ Below w.heap.size w w' := by
  have k1 := hV.c1
  have HV : Hid (RVw L rb me N v A w) := hV
  clear hV
  go_enter Tryz.func74, Tryz.ntmps74
  go_wp2_with fail
  go_loopw [5, 6] (fun s i wr => ∃ (q : Nat) (u : Value), u = s ∧ q ≤ N ∧ i = .int .i64 q ∧ wr.ownsRow w.heap.size 37 2 u q (flatR (rknownL n A q)) ∧ Below w.heap.size w wr) (fun _ i _ => N - (intOf i).toNat)
  case atStart => exact ⟨0, _, rfl, Nat.zero_le _, rfl, World.ownsRow_nil _ _ _ _, Below.refl _ _⟩
  case round =>
    obtain ⟨q, u, rfl, hq, rfl, hrow, hbel⟩ := hrel
    have hV2 := HV.out.more hbel
    have k2 := hV2.c1
    by_cases hlt : q < N
    · have HLA : Hid _ := rlast_any (q : Int) n wr hV2 hL
      have HK : Hid (rknownL n A (q + 1) = rknownL n A q ++ [((lastD q n A).d, (lastD q n A).u)]) := rknownL_succ n A q
      generalize lastD q n A = e0 at *
      have HB : Hid _ := hbel
      obtain ⟨ao, cap, hu, hcap⟩ := own_slice hrow
      subst hu
      have HRW : Hid (World.ownsRow wr w.heap.size 37 2 (.slice ao q cap) q (flatR (rknownL n A q))) := hrow
      clear hbel hV2 hrow
      have hf4 := fld4 e0
      unfold viewV at HLA hf4
      go_wp2_with fail
      refine Calls.mono HLA.out ?_
      rintro e w1 ⟨rfl, hb1⟩
      have HB1 : Hid (Below w.heap.size w w1) := HB.out.trans (hb1.mono HB.out.size)
      have hr1 : World.ownsRow w1 w.heap.size 37 2 (.slice ao q cap) q (flatR (rknownL n A q)) := ownsRow_same HRW.out (fun g hg => hb1.block g (ownsRow_lt HRW.out hg).2)
      obtain ⟨v7, w8, hrun, ho, hg⟩ := app_one 94 37 (.agg #[.int .i64 0, .int .i64 0]) 2 16 Tryz.underlying94 info44 rfl (by decide) (by decide) hr1 #[.int .i64 e0.d, .int .i64 e0.u] rfl (fun u hu => by simp at hu; rcases hu with rfl | rfl <;> rfl) (by omega) HB1.out.size
      have HO : Hid (World.ownsRow w8 w.heap.size 37 2 v7 (q + 1) (flatR (rknownL n A (q + 1)))) := show World.ownsRow w8 w.heap.size 37 2 v7 (q + 1) (flatR (rknownL n A (q + 1))) from by rw [HK.out, show ∀ a b, flatR (a ++ [b]) = flatR a ++ flatR [b] from fun a b => by simp [flatR]]; exact ho
      have HB8 : Hid (Below w.heap.size w w8) := HB1.out.trans (hg.below (fun j hj => (ownsRow_lt hr1 hj).1) HB1.out.size)
      have HR7 : Hid _ := hrun
      clear hb1 HLA hr1 ho hg hrun HK
      go_wp2_with (at_builtin; refine wpList_runs rfl _ _ 94 rfl rfl rfl HR7.out ?_)
      go_roundw
      case rel => exact ⟨q + 1, _, rfl, by omega, by go_num, HO.out, HB8.out⟩
      case measure => simp [intOf]; omega
    · obtain rfl : q = N := by omega
      have HB : Hid _ := hbel
      have HRW : Hid (World.ownsRow wr w.heap.size 37 2 u q (flatR (rknownL n A q))) := hrow
      clear hbel hV2 hrow
      go_wp2_with fail
      go_ret
      exact ⟨_, rfl, HRW.out, HB.out⟩
end Go.Proofs.YtnphkmdanicemaaGreatDoor
