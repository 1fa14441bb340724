import Derived.Test.YtjpdcahodmomgaaJn10
import Derived.Deep.Cut
import Derived.Deep.CutRange
import Derived.Deep.RegionWith
namespace Go.Proofs.Ytjpdcahodmomgaa
open Go.RowKit Go.PlainAid
set_option linter.unusedVariables false
set_option linter.unusedSimpArgs false
set_option maxRecDepth 100000 in
theorem body_any {L g c : Nat} {bs : List UInt8} (w : World) (h : w.ownsRow L 5 1 (.slice (some ⟨g, 0, none⟩) 512 c) 512 (bs.map B)) (hc : 512 ≤ c) : Calls Try.prog 57 #[.slice (some ⟨g, 0, none⟩) 512 c] w fun e w' => e = .returned (.slice (some ⟨g, 8, none⟩) 496 (c - 8)) ∧ By w (.slice (some ⟨g, 8, none⟩) 496 (c - 8)) ((bs.drop 8).take 496) ∧ w' = w := by
  have hl : bs.length = 512 := by have := h.1; simpa using this
  have hb : By w (.slice (some ⟨g, 0, none⟩) 512 c) bs := by
    have := own_by (L := L) (v := .slice (some ⟨g, 0, none⟩) 512 c) (s := bs) (w := w) (by rw [hl]; exact h)
    exact this
  obtain ⟨ao, h1, h2⟩ := by_sliced (lo := 8) (hi := 504) hb hc (by omega) (by omega) (by omega)
  have hs := fun W => slice_lh (some ⟨g, 0, none⟩) 512 c 8 504 (by omega) (by omega) W
  rw [h1] at hs
  have e : sliced (some ⟨g, 0, none⟩) 8 504 c 1 = .slice (some ⟨g, 8, none⟩) 496 (c - 8) := by
    have hn : ¬ c = 8 := by omega
    simp [sliced, hn, Addr.add]
  rw [h1] at e
  have e2 : Value.slice ao (504 - 8) (c - 8) = .slice (some ⟨g, 8, none⟩) 496 (c - 8) := e
  rw [e2] at h2 hs
  have hs' : ∀ W, (Instr.sliceAt 38 (.slice (some ⟨g, 0, none⟩) 512 c) (some (.int .i64 8)) (some (.int .i64 504)) none).run Try.prog W = .ok (.slice (some ⟨g, 8, none⟩) 496 (c - 8)) W := hs
  have HB : Hid (By w (.slice (some ⟨g, 8, none⟩) 496 (c - 8)) ((bs.drop 8).take 496)) := h2
  clear h hb h1 h2 e e2 hs hl
  go_enter Try.func57, Try.ntmps57
  go_wp2_with fail
  go_ret
  exact ⟨rfl, HB.out, rfl⟩
/-- How many bytes of a record stand at a place. -/
def plN (len i : Nat) : Nat := min ((i + 1) * 496) len - i * 496
set_option maxRecDepth 100000 in
theorem part_row {g n place : Nat} (w : World) (hn : n ≤ 8192) (hp : place < kS n) : Calls Try.prog 56 #[.slice (some ⟨g, 0, none⟩) n n, .int .i64 (place : Int)] w fun e w' => e = .returned (.slice (some ⟨g, place * 496, none⟩) (plN n place) (n - place * 496)) ∧ w' = w := by
  have hkn := kS_le n hn
  have hpl : place * 496 ≤ n ∧ (place * 496 < n ∨ place = 0) := by unfold kS at hp; omega
  have hsl : ∀ hi, place * 496 ≤ hi → hi ≤ n → sliced (some ⟨g, 0, none⟩) (place * 496) hi n 1 = .slice (some ⟨g, place * 496, none⟩) (hi - place * 496) (n - place * 496) := fun hi h1 h2 => by
    rcases hpl.2 with h3 | h3
    · have h4 : ¬ n = place * 496 := by omega
      simp [sliced, h4, Addr.add]
      try (intro h; omega)
    · subst h3
      simp [sliced, Addr.add]
      try (intros; rfl)
  by_cases hcase : (place + 1) * 496 ≤ n
  · have hs := fun W => slice_lh (some ⟨g, 0, none⟩) n n (place * 496) ((place + 1) * 496) (by omega) (by omega) W
    rw [hsl _ (by omega) hcase] at hs
    have e1 : plN n place = (place + 1) * 496 - place * 496 := by unfold plN; omega
    rw [e1]
    have e2 : ((place * 496 : Nat) : Int) = (place : Int) * 496 := by omega
    have e3 : (((place + 1) * 496 : Nat) : Int) = ((place : Int) + 1) * 496 := by omega
    rw [e2, e3] at hs
    have hle : ((place : Int) + 1) * 496 ≤ (n : Int) := by omega
    have hnlt : ¬ (n : Int) < ((place : Int) + 1) * 496 := by omega
    clear e1 e2 e3 hsl
    go_enter Try.func56, Try.ntmps56
    go_wp2_with fail
    go_ret
    exact ⟨rfl, rfl⟩
  · have hs := fun W => slice_lh (some ⟨g, 0, none⟩) n n (place * 496) n (by omega) (by omega) W
    rw [hsl _ (by omega) (Nat.le_refl _)] at hs
    have e1 : plN n place = n - place * 496 := by unfold plN; omega
    rw [e1]
    have e2 : ((place * 496 : Nat) : Int) = (place : Int) * 496 := by omega
    rw [e2] at hs
    have hlt : (n : Int) < ((place : Int) + 1) * 496 := by omega
    clear e1 e2 hsl
    go_enter Try.func56, Try.ntmps56
    go_wp2_with fail
    go_ret
    exact ⟨rfl, rfl⟩
/-- The bytes of a record that stands from a sector on. -/
def recB (b : Nat → UInt8) (next len : Nat) : List UInt8 := (List.range len).map fun j => b ((next + j / 496) * 512 + 8 + j % 496)
theorem recB_len (b : Nat → UInt8) (next len : Nat) : (recB b next len).length = len := by rw [recB, List.length_map, List.length_range]
theorem recB_getD (b : Nat → UInt8) (next len j : Nat) (h : j < len) : (recB b next len).getD j 0 = b ((next + j / 496) * 512 + 8 + j % 496) := by
  rw [List.getD_eq_getElem?_getD, recB, List.getElem?_map, List.getElem?_range h, Option.map_some, Option.getD_some]
def goodP (b : Nat → UInt8) (n next num len p : Nat) : Prop := next + p < n ∧ bearsB (secL b (next + p)) (markL num p len) = true
/-- Does a record stand there? -/
def RecOk (b : Nat → UInt8) (n next num : Nat) : Prop := next < n ∧ lenIn (secL b next) ≤ 8192 ∧ ∀ p, p < kS (lenIn (secL b next)) → goodP b n next num (lenIn (secL b next)) p
theorem sec_body (b : Nat → UInt8) (i j : Nat) (h : j < 496) : (((secL b i).drop 8).take 496).getD j 0 = b (i * 512 + 8 + j) := by
  rw [List.getD_eq_getElem?_getD, List.getElem?_take, if_pos h, List.getElem?_drop, secL_get _ _ _ (by omega), Option.getD_some, Nat.add_assoc]
end Go.Proofs.Ytjpdcahodmomgaa
