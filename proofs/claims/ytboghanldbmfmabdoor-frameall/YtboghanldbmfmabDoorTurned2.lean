import Derived.Test.YtboghanldbmfmabDoorShelf2
import Derived.Deep.AppendLies
namespace Go.Proofs.YtboghanldbmfmabDoor
open Go.RowKit

theorem bits_xor_u8 (x y : UInt8) : bits BinOp.xor IntKind.u8 (x.toNat : Int) (y.toNat : Int) = ((x ^^^ y).toNat : Int) := by
  have hx := byte_lt x
  have hy := byte_lt y
  have ha' : x.toNat % 2 ^ IntKind.u8.bits = x.toNat := Nat.mod_eq_of_lt hx
  have hb' : y.toNat % 2 ^ IntKind.u8.bits = y.toNat := Nat.mod_eq_of_lt hy
  simp only [bits, BitVec.ofInt_natCast, BitVec.toNat_xor, BitVec.toNat_ofNat, ha', hb', UInt8.toNat_xor]
  have : x.toNat ^^^ y.toNat < 2 ^ 8 := Nat.xor_lt_two_pow hx hy
  rw [IntKind.wrap_u8]
  omega

theorem addr_add (g j : Nat) : (Addr.add ⟨g, 0, none⟩ j) = ⟨g, j, none⟩ := by unfold Addr.add; split <;> simp_all

theorem cell_set (w : World) (g k j : Nat) (v : Value) (hk : (w.cell? ⟨g, k, none⟩).isSome = true) : (w.setCell ⟨g, k, none⟩ v).cell? ⟨g, j, none⟩ = if j = k then some v else w.cell? ⟨g, j, none⟩ := by
  unfold World.cell? at *
  cases h : w.heap[g]? with
  | none => rw [h] at hk; simp at hk
  | some o =>
    cases o with
    | cells c t fr =>
      rw [h] at hk
      simp only [Option.isSome_none, Bool.false_eq_true, if_false] at hk
      have hkl : k < c.size := by
        rcases Nat.lt_or_ge k c.size with h1 | h1
        · exact h1
        · rw [Array.getElem?_eq_none h1] at hk; simp at hk
      simp only [World.setCell, Array.getElem?_modify, h, if_true, Option.map_some, Option.isSome_none, Bool.false_eq_true, if_false]
      rw [Array.getElem?_setIfInBounds]
      by_cases e : j = k
      · subst e; simp [hkl]
      · rw [if_neg (fun e' => e e'.symm), if_neg e]
    | _ => rw [h] at hk; simp at hk

/-- A copy, one of its bytes another one. -/
def turnedL (ps : List UInt8) : List UInt8 := ps.set (ps.length / 2) (ps.getD (ps.length / 2) 0 ^^^ 1)
theorem turnedL_len (ps : List UInt8) : (turnedL ps).length = ps.length := by simp [turnedL]

set_option maxHeartbeats 800000 in
theorem turned_any (ao : Option Addr) (n cap : Nat) (ps : List UInt8) (w : World) (hn : ps.length = n) (hm : n ≤ 65536) (hnil : ao = none → n = 0 ∧ cap = 0) (hsrc : Src w ao ps) :
    Calls Tryd.prog 6 #[.slice ao n cap] w fun e w' => ∃ co c, e = .returned (.slice co n c) ∧ n ≤ c ∧ (co = none → n = 0 ∧ c = 0) ∧ Src w' co (turnedL ps) ∧ (∀ ad, co = some ad → w.heap.size ≤ ad.block ∧ ∃ cur, w'.heap[ad.block]? = some (.cells cur 5 (0, 0))) ∧ Below w.heap.size w w' := by
  go_enter Tryd.func6, Tryd.ntmps6
  go_wp2_with (first
    | (at_builtin; go_must (refine wpList_append_bytes rfl _ _ rfl w.heap.size 0 _ [] rfl (World.ownsRow_nil _ _ _ _) ao n cap ps rfl hn hnil hsrc (by omega) (Nat.le_refl _) ?_))
    | fail)
  intro v1 w1 hown1 hg1
  have hb1 : Below w.heap.size w w1 := (Below.refl _ _).grown hg1 (Nat.le_refl _) (fun k h => by cases h)
  replace hown1 : w1.ownsRow w.heap.size 5 1 v1 n (ps.map B) := by simpa using hown1
  have hblkv := fun g hg => own_blk hown1 (g := g) hg
  obtain ⟨ao1, cap1, rfl, hc1, hnil1, hs1, hl1⟩ := own_src hown1
  clear hg1
  by_cases h0 : n = 0
  · have hps : ps = [] := List.eq_nil_of_length_eq_zero (by omega)
    subst hps
    subst h0
    go_wp2
    go_ret
    exact ⟨ao1, cap1, rfl, (by intro e; first | exact ⟨rfl, (hnil1 e).2⟩ | exact (hnil1 e).2), fun h => by simp [turnedL] at h, fun ad e => by
      subst e
      obtain ⟨h1, cur, h2⟩ := hblkv ad.block rfl
      exact ⟨h1, cur, h2⟩, hb1⟩
  · obtain ⟨g, c', e, hLg, hgl⟩ := hown1.form (by omega)
    cases e
    obtain ⟨_, cur, hcur⟩ := hblkv g rfl
    have hcell : ∀ j u, ps[j]? = some u → w1.cell? ⟨g, j, none⟩ = some (B u) := by
      intro j u hu
      obtain ⟨ad, e, hc⟩ := hs1 (by omega)
      cases e
      have := hc j u hu
      rwa [addr_add] at this
    have hgt := getD_some ps (n / 2) (by omega)
    have hc := hcell (n / 2) _ hgt
    have hfz : w1.frozen? ⟨g, n / 2, none⟩ = false := by simp [World.frozen?, hcur]
    have hx := bits_xor_u8 (ps.getD (n / 2) 0) 1
    rw [show ((1 : UInt8).toNat : Int) = 1 from rfl] at hx
    have hsF : Src (w1.setCell ⟨g, n / 2, none⟩ (B (ps.getD (n / 2) 0 ^^^ 1))) (some ⟨g, 0, none⟩) (turnedL ps) := fun _ => ⟨_, rfl, fun j u hu => by
      rw [addr_add]
      rw [cell_set _ _ _ _ _ (by rw [hc]; rfl)]
      unfold turnedL at hu
      rw [hn, List.getElem?_set] at hu
      by_cases e : j = n / 2
      · subst e
        rw [if_pos rfl, if_pos (by omega)] at hu
        cases hu
        rw [if_pos rfl]
      · rw [if_neg (fun e' => e e'.symm)] at hu
        rw [if_neg e]
        exact hcell j u hu⟩
    have hcurF : ∃ cur, (w1.setCell ⟨g, n / 2, none⟩ (B (ps.getD (n / 2) 0 ^^^ 1))).heap[g]? = some (.cells cur 5 (0, 0)) := ⟨_, by simp [World.setCell, Array.getElem?_modify, hcur]; rfl⟩
    have hbF := hb1.setCell (p := ⟨g, n / 2, none⟩) hLg (B (ps.getD (n / 2) 0 ^^^ 1))
    simp only [B] at hc hsF hcurF hbF
    clear hcell hcur hgt hs1 hown1 hblkv hb1
    have hzb := byte_lt (ps.getD (n / 2) 0 ^^^ 1)
    generalize (ps.getD (n / 2) 0 ^^^ 1).toNat = z at *
    have hxb := byte_lt (ps.getD (n / 2) 0)
    generalize (ps.getD (n / 2) 0).toNat = x at *
    go_wp2
    go_ret
    exact ⟨_, _, rfl, hc1, (fun e => by cases e), hsF, fun ad e => by cases e; exact ⟨hLg, hcurF⟩, hbF⟩
end Go.Proofs.YtboghanldbmfmabDoor
