import Derived.Test.YtjpdcahodmomgaaJn3
import Derived.Test.YtjpdcahodmomgaaArgs
import Derived.Deep.RegionWith
import Derived.Deep.Cut
namespace Go.Proofs.Ytjpdcahodmomgaa
open Go.RowKit Go.PlainAid
set_option linter.unusedVariables false
set_option linter.unusedSimpArgs false
/-- The bytes of a record in its sector at that place. -/
def pieceL (bs : List UInt8) (place : Nat) : List UInt8 := (bs.drop (place * 496)).take 496
theorem pieceL_len (bs : List UInt8) (place : Nat) : (pieceL bs place).length ≤ 496 := by unfold pieceL; rw [List.length_take]; omega
theorem slice_lh (vo : Option Addr) (n c lo hi : Nat) (h1 : lo ≤ hi) (h2 : hi ≤ c) (w : World) : (Instr.sliceAt 38 (.slice vo n c) (some (.int .i64 (lo : Int))) (some (.int .i64 (hi : Int))) none).run Try.prog w = .ok (sliced vo lo hi c 1) w := by
  have hs : (sizeOf 5).run Try.prog w = .ok 1 w := by kernel_rfl
  have he : Try.prog.elem 38 = 5 := by kernel_rfl
  have hu2 : Try.prog.underlying 38 = some (.slice (Try.prog.elem 38)) := by rw [he]; exact Try.underlying38
  rw [run_sliceAt_slice _ _ _ _ _ _ hu2, run_slice_lh _ _ _ _ _ hu2 .i64 .i64 (lo : Int) (hi : Int) (by omega) (by omega) (by omega), he, hs]
  simp [Result.andThen]
theorem by_sliced {w : World} {vo : Option Addr} {n c lo hi : Nat} {bs : List UInt8} (hb : By w (.slice vo n c) bs) (hc : n ≤ c) (h1 : lo ≤ hi) (h2 : hi ≤ n) (h3 : lo < c ∨ lo = 0) : ∃ ao, sliced vo lo hi c 1 = .slice ao (hi - lo) (c - lo) ∧ By w (.slice ao (hi - lo) (c - lo)) ((bs.drop lo).take (hi - lo)) := by
  obtain ⟨ao, k, c', e, hl, hn, ha⟩ := hb
  cases e
  have hll : ((bs.drop lo).take (hi - lo)).length = hi - lo := by rw [List.length_take, List.length_drop, hl]; omega
  cases vo with
  | none =>
    obtain ⟨e1, e2⟩ := hn rfl
    subst e1
    subst e2
    obtain rfl : hi = 0 := by omega
    obtain rfl : lo = 0 := by omega
    exact ⟨none, by simp [sliced], none, 0, 0, rfl, hll, fun _ => ⟨rfl, rfl⟩, fun ad e => by cases e⟩
  | some ad =>
    by_cases h0 : lo = 0
    · subst h0
      refine ⟨some ad, by simp [sliced, Addr.add]; try (intros; rfl), some ad, hi - 0, c - 0, rfl, hll, (fun e => by cases e), fun ad' e j u hu => ?_⟩
      cases e
      refine ha ad rfl j u ?_
      rw [List.getElem?_map] at hu ⊢
      rw [List.drop_zero, List.getElem?_take] at hu
      split at hu
      · exact hu
      · cases hu
    · have hlc : ¬ c = lo := by omega
      refine ⟨some (ad.add lo), by simp [sliced, hlc]; try omega, some (ad.add lo), hi - lo, c - lo, rfl, hll, (fun e => by cases e), fun ad' e j u hu => ?_⟩
      cases e
      rw [List.getElem?_map, List.getElem?_take] at hu
      split at hu
      · rw [List.getElem?_drop] at hu
        have := ha ad rfl (lo + j) u (by rw [List.getElem?_map]; exact hu)
        have e2 : (ad.add lo).add j = ad.add (lo + j) := by unfold Addr.add; split <;> simp_all [Nat.add_assoc]
        rw [e2]; exact this
      · cases hu
set_option maxRecDepth 100000 in
theorem part_any {vo : Option Addr} {n c place : Nat} {bs : List UInt8} (w : World) (hb : By w (.slice vo n c) bs) (hc : n ≤ c) (hn : n ≤ 8192) (hp : place < kS n) :
    Calls Try.prog 56 #[.slice vo n c, .int .i64 (place : Int)] w fun e w' => ∃ v', e = .returned v' ∧ By w v' (pieceL bs place) ∧ w' = w := by
  have hkn := kS_le n hn
  have hpl : place * 496 ≤ n ∧ (place * 496 < n ∨ place = 0) := by unfold kS at hp; omega
  have hbl : bs.length = n := by obtain ⟨_, _, _, e, e2, _⟩ := id hb; cases e; exact e2
  by_cases hcase : (place + 1) * 496 ≤ n
  · obtain ⟨ao, h1, h2⟩ := by_sliced (lo := place * 496) (hi := (place + 1) * 496) hb hc (by omega) hcase (by omega)
    have e1 : (place + 1) * 496 - place * 496 = 496 := by omega
    rw [e1] at h1 h2
    have hs := fun W => slice_lh vo n c (place * 496) ((place + 1) * 496) (by omega) (by omega) W
    rw [h1] at hs
    have e2 : ((place * 496 : Nat) : Int) = (place : Int) * 496 := by omega
    have e3 : (((place + 1) * 496 : Nat) : Int) = ((place : Int) + 1) * 496 := by omega
    rw [e2, e3] at hs
    have hle : ((place : Int) + 1) * 496 ≤ (n : Int) := by omega
    have hnlt : ¬ (n : Int) < ((place : Int) + 1) * 496 := by omega
    have HB : Hid (By w (.slice ao 496 (c - place * 496)) (pieceL bs place)) := h2
    clear hb h1 h2 e1 e2 e3 hbl
    go_enter Try.func56, Try.ntmps56
    go_wp2_with fail
    go_ret
    exact ⟨_, rfl, HB.out, rfl⟩
  · obtain ⟨ao, h1, h2⟩ := by_sliced (lo := place * 496) (hi := n) hb hc (by omega) (Nat.le_refl _) (by omega)
    have hs := fun W => slice_lh vo n c (place * 496) n (by omega) (by omega) W
    rw [h1] at hs
    have e2 : ((place * 496 : Nat) : Int) = (place : Int) * 496 := by omega
    rw [e2] at hs
    have hlt : (n : Int) < ((place : Int) + 1) * 496 := by omega
    have hpe : (bs.drop (place * 496)).take (n - place * 496) = pieceL bs place := by
      unfold pieceL
      rw [List.take_of_length_le (by rw [List.length_drop]; omega), List.take_of_length_le (by rw [List.length_drop]; omega)]
    rw [hpe] at h2
    have HB : Hid (By w (.slice ao (n - place * 496) (c - place * 496)) (pieceL bs place)) := h2
    clear hb h1 h2 e2 hbl hpe
    go_enter Try.func56, Try.ntmps56
    go_wp2_with fail
    go_ret
    exact ⟨_, rfl, HB.out, rfl⟩
set_option maxRecDepth 100000 in
theorem clone_any {vo : Option Addr} {n c : Nat} {bs : List UInt8} (w : World) (hb : By w (.slice vo n c) bs) (hn : n ≤ 8192) :
    Calls Try.prog 50 #[.slice vo n c] w fun e w' => ∃ v', e = .returned v' ∧ w'.ownsRow w.heap.size 5 1 v' n (bs.map B) ∧ Below w.heap.size w w' := by
  have hbl : bs.length = n := by obtain ⟨_, _, _, e, e2, _⟩ := id hb; cases e; exact e2
  have q38 : ∀ (w : World) (a : Option Addr) (n c n' c' : Nat), (binOp .eql 38 (.slice a n c) (.slice none n' c')).run Try.prog w = .ok (.bool a.isNone) w := fun w a n c n' c' => Lib.run_eql_slice_nil w _ _ a n c n' c' Try.underlying38
  cases vo with
  | none =>
    obtain ⟨_, _, _, e, e2, e3, _⟩ := id hb
    cases e
    obtain ⟨rfl, rfl⟩ := e3 rfl
    obtain rfl : bs = [] := List.eq_nil_of_length_eq_zero hbl
    clear hb e2 e3
    go_enter Try.func50, Try.ntmps50
    go_wp2_with fail
    go_ret
    exact ⟨_, rfl, World.ownsRow_nil _ _ _ _, Below.refl _ _⟩
  | some ad =>
    obtain ⟨H, hH⟩ : ∃ H, H = w.heap.size := ⟨_, rfl⟩
    obtain ⟨w1, hw1⟩ : ∃ w1, w1 = w.alloc (.cells #[] 5) := ⟨_, rfl⟩
    have hb1 : Below H w w1 := by rw [hw1, hH]; exact (Below.refl _ _).alloc (Nat.le_refl _) _
    have hB1 : Blk w1 H #[] 5 := by rw [hw1, hH]; exact heap_alloc_new w _
    have ho1 : w1.ownsRow H 5 1 (.slice (some ⟨H, 0, none⟩) 0 0) 0 [] := own_blk (bs := []) hB1 (Nat.le_refl _) rfl (by unfold maxLen; omega) (fun j hj => by omega) rfl
    have hby := hb.keep (by rw [← hH]; exact hb1)
    obtain ⟨ao', k', c', e, hl', hn', ha'⟩ := hby
    cases e
    obtain ⟨v2, w2, hr2, ho2, hg2⟩ := app_rows (w := w1) 38 5 (.int .u8 0) 1 1 Try.underlying38 info5' rfl (by decide) (by decide) ho1 (ao := some ad) (m := n) (cap := c) (ys := bs.map B) (by simp [hbl]) (fun e => by cases e) ha' (oneB bs) (by omega) (by have := hB1.lt; omega)
    rw [Nat.zero_add, List.nil_append] at ho2
    have HF : Hid (w2.ownsRow H 5 1 v2 n (bs.map B) ∧ Below H w w2) := ⟨ho2, hb1.trans (hg2.below (fun q hq => by cases hq; exact Nat.le_refl _) (by have := hB1.lt; omega))⟩
    have HR : Hid (∀ ty, (Builtin.append_ #[38, 38] ty #[.slice (some ⟨H, 0, none⟩) 0 0, .slice (some ad) n c]).run Try.prog w1 = .ok v2 w2) := hr2
    rw [← hH]
    clear hb hb1 hB1 ho1 hl' hn' ha' hr2 ho2 hg2 hbl
    go_enter Try.func50, Try.ntmps50
    go_upto_region 3 with fail
    go_wp2_with (at_builtin; rw [← hw1, ← hH]; refine wpList_runs rfl _ _ 38 rfl rfl rfl HR.out ?_)
    go_ret
    exact ⟨_, rfl, HF.out.1, HF.out.2⟩
end Go.Proofs.Ytjpdcahodmomgaa
