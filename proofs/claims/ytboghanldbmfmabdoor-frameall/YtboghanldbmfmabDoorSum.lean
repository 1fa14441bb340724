import Derived.Test.YtboghanldbmfmabDoorRows
import Derived.Test.YtboghanldbmfmabDoorMath
import Derived.WalkKit
import Derived.WalkSpells
import Derived.WalkLawsBesides
namespace Go.Proofs.YtboghanldbmfmabDoor
open Go.RowKit

/-- A byte as a value; bytes that lie from a place on; the table of half bytes. -/
def B (x : UInt8) : Value := .int .u8 (x.toNat : Int)
def At (w : World) (b off : Nat) (bs : List UInt8) : Prop := ∀ j u, bs[j]? = some u → w.cell? ⟨b, off + j, none⟩ = some (B u)
def Tab (w : World) : Prop := ∀ i, i < 16 → w.cell? ⟨0, i, none⟩ = some (.int .u32 (halfN i : Nat))

theorem ret_u32 {a b : Int} (h : a = b) : Ending.returned (.int .u32 a) = .returned (.int .u32 b) := by rw [h]

set_option maxHeartbeats 400000 in
theorem sum_any (b off n cap : Nat) (bs : List UInt8) (w : World) (hn : bs.length = n) (hm : n ≤ 100000) (hA : At w b off bs) (hT : Tab w) :
    Calls Tryd.prog 23 #[.slice (some ⟨b, off, none⟩) n cap] w fun e w' => e = .returned (.int .u32 (sumN bs : Nat)) ∧ w' = w := by
  have hsg : IntKind.u32.signed = false := rfl
  go_enter Tryd.func23, Tryd.ntmps23
  go_wp2
  go_loop [3, 8] (fun s i => ∃ k : Nat, k ≤ n ∧ i = .int .i64 k ∧ s = .int .u32 (crc 4294967295 (bs.take k) : Nat)) (fun _ i => n - (intOf i).toNat)
  case atStart => exact ⟨0, by omega, rfl, rfl⟩
  case round =>
    obtain ⟨k, hk, rfl, rfl⟩ := hrel
    have hsl : crc 4294967295 (bs.take k) < 2 ^ 32 := crc_lt (by decide) _
    by_cases hlt : k < n
    · obtain ⟨u, hu⟩ : ∃ u, bs[k]? = some u := ⟨bs[k]'(by omega), by simp [List.getElem?_eq_getElem (by omega : k < bs.length)]⟩
      have hc := hA k u hu
      simp only [B] at hc
      have HS : Hid (crc 4294967295 (bs.take (k + 1)) = stepB (crc 4294967295 (bs.take k)) u) := crc_take_succ bs k u hu _
      clear hu hA
      generalize crc 4294967295 (bs.take k) = s at *
      have hub := byte_lt u
      have hx1 : bits BinOp.xor IntKind.u32 (s : Int) (u.toNat : Int) = ((s ^^^ u.toNat : Nat) : Int) := bits_xor_u32 _ _ hsl (by omega)
      have hx1l := xorB_lt hsl u
      have HS' : Hid (crc 4294967295 (bs.take (k + 1)) = zed (s ^^^ u.toNat)) := HS.out
      clear HS
      generalize s ^^^ u.toNat = x1 at *
      have ha1 := bits_and15_u32 x1 hx1l
      have hl1 : x1 % 16 < 16 := Nat.mod_lt _ (by decide)
      have hc1 := hT (x1 % 16) hl1
      have hx2 : bits BinOp.xor IntKind.u32 ((x1 : Int) / 16) ((halfN (x1 % 16) : Nat) : Int) = ((step4 x1 : Nat) : Int) := by
        rw [show ((x1 : Int) / 16) = ((x1 / 16 : Nat) : Int) from by omega]
        exact bits_xor_u32 _ _ (by omega) (halfN_lt _)
      have HS2 : Hid (crc 4294967295 (bs.take (k + 1)) = step4 (step4 x1)) := HS'.out
      clear HS'
      have hx2l := step4_lt hx1l
      generalize step4 x1 = x2 at *
      have ha2 := bits_and15_u32 x2 hx2l
      have hl2 : x2 % 16 < 16 := Nat.mod_lt _ (by decide)
      have hc2 := hT (x2 % 16) hl2
      have hx3 : bits BinOp.xor IntKind.u32 ((x2 : Int) / 16) ((halfN (x2 % 16) : Nat) : Int) = ((step4 x2 : Nat) : Int) := by
        rw [show ((x2 : Int) / 16) = ((x2 / 16 : Nat) : Int) from by omega]
        exact bits_xor_u32 _ _ (by omega) (halfN_lt _)
      generalize x1 % 16 = a1 at *
      generalize x2 % 16 = a2 at *
      clear hT
      go_wp2
      go_round
      case rel => exact ⟨k + 1, by omega, by go_num, by rw [HS2.out]⟩
      case measure => simp [intOf]; omega
    · have hx : bits BinOp.xor IntKind.u32 IntKind.u32.max ((crc 4294967295 (bs.take k) : Nat) : Int) = ((4294967295 ^^^ crc 4294967295 (bs.take k) : Nat) : Int) := bits_xor_u32 4294967295 _ (by decide) hsl
      have HF : Hid (4294967295 ^^^ crc 4294967295 (bs.take k) = sumN bs) := by
        rw [List.take_of_length_le (by omega)]; rfl
      go_wp2
      go_ret
      exact ⟨ret_u32 (by rw [HF.out]), rfl⟩
end Go.Proofs.YtboghanldbmfmabDoor
