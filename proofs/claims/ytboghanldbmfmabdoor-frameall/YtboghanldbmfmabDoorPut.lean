import Derived.Test.YtboghanldbmfmabDoorSum
namespace Go.Proofs.YtboghanldbmfmabDoor
open Go.RowKit

/-- Block g is a row of bytes of its own. -/
def Row (w : World) (g : Nat) (bs : List UInt8) : Prop := w.heap[g]? = some (.cells (bs.map B).toArray 5 (0, 0))

theorem Row.set {w : World} {g : Nat} {bs : List UInt8} (h : Row w g bs) (o : Nat) (u : UInt8) : Row (w.setCell ⟨g, o, none⟩ (B u)) g (bs.set o u) := by
  unfold Row at *
  simp only [World.setCell, Array.getElem?_modify, h, if_true, Option.map_some, Option.isSome_none]
  simp [List.map_set]
theorem Row.cell {w : World} {g : Nat} {bs : List UInt8} (h : Row w g bs) (j : Nat) (u : UInt8) (hu : bs[j]? = some u) : w.cell? ⟨g, j, none⟩ = some (B u) := by
  rw [cell_of_row w g j _ 5 (0, 0) h]
  simp [hu]
theorem Row.frozen {w : World} {g : Nat} {bs : List UInt8} (h : Row w g bs) (j : Nat) : w.frozen? ⟨g, j, none⟩ = false := by
  unfold Row at h
  simp [World.frozen?, h]
theorem Row.at {w : World} {g : Nat} {bs : List UInt8} (h : Row w g bs) (off : Nat) (cs : List UInt8) (hc : cs = (bs.drop off).take cs.length) : At w g off cs := by
  intro j u hu
  refine h.cell _ _ ?_
  rw [hc, List.getElem?_take] at hu
  split at hu
  · rw [List.getElem?_drop] at hu; exact hu
  · cases hu

def byteAt (s k : Nat) : UInt8 := UInt8.ofNat (s / 256 ^ k)
def le4 (s : Nat) : List UInt8 := [byteAt s 0, byteAt s 1, byteAt s 2, byteAt s 3]
def put (w : World) (g off s : Nat) : Nat → World
  | 0 => w
  | k + 1 => (put w g off s k).setCell ⟨g, off + k, none⟩ (B (byteAt s k))
def sets (bs : List UInt8) (off s : Nat) : Nat → List UInt8
  | 0 => bs
  | k + 1 => (sets bs off s k).set (off + k) (byteAt s k)
theorem sets_len (bs : List UInt8) (off s k : Nat) : (sets bs off s k).length = bs.length := by
  induction k with
  | zero => rfl
  | succ k ih => simp [sets, ih]
theorem put_row {w : World} {g off s : Nat} {bs : List UInt8} (h : Row w g bs) (k : Nat) : Row (put w g off s k) g (sets bs off s k) := by
  induction k with
  | zero => exact h
  | succ k ih => exact ih.set _ _
theorem put_below {w : World} {g off s : Nat} (k : Nat) {B : Nat} (hB : B ≤ g) : Below B w (put w g off s k) := by
  induction k with
  | zero => exact Below.refl _ _
  | succ k ih => exact ih.setCell hB _
theorem byteAt_nat (s k : Nat) : (byteAt s k).toNat = s / 256 ^ k % 256 := by simp [byteAt]
theorem sets_4 (xs ys : List UInt8) (s : Nat) (h : ys.length = 4) : sets (xs ++ ys) xs.length s 4 = xs ++ le4 s := by
  match ys, h with
  | [a, b, c, d], _ => simp [sets, le4]

theorem val_u8 {a b : Int} (h : a = b) : Value.int .u8 a = .int .u8 b := by rw [h]

set_option maxHeartbeats 400000 in
theorem putSum_any (g off cap s : Nat) (bs : List UInt8) (w : World) (hR : Row w g bs) (h4 : off + 4 ≤ bs.length) (hs : s < 2 ^ 32) :
    Calls Tryd.prog 22 #[.slice (some ⟨g, off, none⟩) 4 cap, .int .u32 (s : Nat)] w fun e w' => e = .returned (.tuple #[]) ∧ w' = put w g off s 4 := by
  have hsg : IntKind.u32.signed = false := rfl
  go_enter Tryd.func22, Tryd.ntmps22
  go_wp2
  go_loopw [5] (fun i wr => ∃ k : Nat, k ≤ 4 ∧ i = .int .i64 k ∧ wr = put w g off s k) (fun i _ => 4 - (intOf i).toNat)
  case atStart => exact ⟨0, by omega, rfl, rfl⟩
  case round =>
    obtain ⟨k, hk, rfl, hwr⟩ := hrel
    have hRk : Row wr g (sets bs off s k) := by rw [hwr]; exact put_row hR k
    have hl := sets_len bs off s k
    obtain ⟨u, hu⟩ : ∃ u, k < 4 → (sets bs off s k)[off + k]? = some u := by
      by_cases hk4 : k < 4
      · exact ⟨(sets bs off s k)[off + k]'(by omega), fun _ => List.getElem?_eq_getElem _⟩
      · exact ⟨0, fun h => absurd h hk4⟩
    have hfz := hRk.frozen (off + k)
    have hfin : k = 4 → wr = put w g off s 4 := fun h => by rw [hwr, h]
    have hnext : wr.setCell ⟨g, off + k, none⟩ (B (byteAt s k)) = put w g off s (k + 1) := by rw [hwr]; rfl
    have Hwr : Hid _ := hwr
    have Hnext : Hid _ := hnext
    have Hfin : Hid _ := hfin
    clear hwr hnext hfin hl hR
    have hb := byteAt_nat s k
    by_cases hlt : k < 4
    · have hc := hRk.cell _ _ (hu hlt)
      simp only [B] at hc
      clear hu hRk
      have Hb : Hid _ := hb
      clear hb
      have hend : ∀ x : Int, x = ((s / 256 ^ k % 256 : Nat) : Int) → wr.setCell ⟨g, off + k, none⟩ (.int .u8 x) = put w g off s (k + 1) := by
        intro x hx
        rw [← Hnext.out, B, Hb.out, hx]
      have Hend : Hid _ := hend
      clear hend Hnext Hb Hwr Hfin
      rcases (show k = 0 ∨ k = 1 ∨ k = 2 ∨ k = 3 from by omega) with rfl | rfl | rfl | rfl
      · simp only [Nat.add_zero] at hc hfz
        go_wp2
        go_roundw
        case rel => exact ⟨1, by omega, by go_num, Hend.out _ (by omega)⟩
        case measure => simp [intOf]
      · go_wp2
        go_roundw
        case rel => exact ⟨2, by omega, by go_num, Hend.out _ (by omega)⟩
        case measure => simp [intOf]
      · go_wp2
        go_roundw
        case rel => exact ⟨3, by omega, by go_num, Hend.out _ (by omega)⟩
        case measure => simp [intOf]
      · go_wp2
        go_roundw
        case rel => exact ⟨4, by omega, by go_num, Hend.out _ (by omega)⟩
        case measure => simp [intOf]
    · clear hu
      go_wp2
      go_end0
      exact ⟨rfl, Hfin.out (by omega)⟩
end Go.Proofs.YtboghanldbmfmabDoor
