import Derived.Test.YtjpdcahodmomgaaJn33
import Derived.BigQuiet
import Derived.Test.YtjpdcahodmomgaaJn19
namespace Go.Proofs.Ytjpdcahodmomgaa
open Go.RowKit Go.PlainAid
set_option linter.unusedVariables false
set_option linter.unusedSimpArgs false
set_option maxRecDepth 100000
set_option maxHeartbeats 3200000
theorem imgL_from (n : Nat) (im : List UInt8) (hl : im.length = n * 512) : imgL (fromX n im) = im := by
  apply List.ext_getElem?
  intro j
  have hn : (fromX n im).n = n := rfl
  by_cases h : j < 512 * n
  · rw [imgL_get _ _ (by rw [hn]; exact h)]
    show some (if j < n * 512 then im.getD j 0 else 0) = _
    rw [if_pos (by omega), List.getD_eq_getElem?_getD, List.getElem?_eq_getElem (by omega)]
    rfl
  · rw [List.getElem?_eq_none (by rw [imgL_len, hn]; omega), List.getElem?_eq_none (by omega)]
def ShPost (w : World) (e : Ending) (w' : World) : Prop := ∃ (n g : Nat) (im : List UInt8), 1 ≤ n ∧ n ≤ 80 ∧ im.length = n * 512 ∧ e = .returned (.slice (some ⟨g, 0, none⟩) (n * 512) (n * 512)) ∧ w'.ownsRow w.heap.size 5 1 (.slice (some ⟨g, 0, none⟩) (n * 512) (n * 512)) (n * 512) (im.map B) ∧ Below w.heap.size w w'
/-- An image of so many sectors. -/
theorem shaped_any {v : Value} {bs : List UInt8} (z : Int) (w : World) (hz : -9223372036854775808 ≤ z ∧ z ≤ 9223372036854775807) (hb : By w v bs) :
    Calls Try.prog 23 #[.int .i64 z, v] w (ShPost w) := by
  obtain ⟨vo, vn, vc, rfl, hvn, _⟩ := id hb
  have key : ∀ k : Nat, k < 80 → ∃ (w2 w3 : World) (im : List UInt8), (Instr.makeSlice 38 (.int .i64 (512 * (1 + (k : Int)))) (.int .i64 (512 * (1 + (k : Int))))).run Try.prog w = .ok (.slice (some ⟨w.heap.size, 0, none⟩) ((1 + k) * 512) ((1 + k) * 512)) w2 ∧ (∃ m : Int, (Builtin.copy_ #[38, 38] 3 #[.slice (some ⟨w.heap.size, 0, none⟩) ((1 + k) * 512) ((1 + k) * 512), .slice vo vn vc]).run Try.prog w2 = .ok (.int .i64 m) w3) ∧ im.length = (1 + k) * 512 ∧ w3.ownsRow w.heap.size 5 1 (.slice (some ⟨w.heap.size, 0, none⟩) ((1 + k) * 512) ((1 + k) * 512)) ((1 + k) * 512) ((im : List UInt8).map B) ∧ Below w.heap.size w w3 := fun k hk => by
    obtain ⟨R, hmk, hRs, hRa⟩ := mk_bytes ((1 + k) * 512) (by omega) w
    have e1 : (((1 + k) * 512 : Nat) : Int) = 512 * (1 + (k : Int)) := by push_cast; omega
    rw [e1] at hmk
    have hbl : Below w.heap.size w (w.alloc (.cells R 5)) := (Below.refl _ _).alloc (Nat.le_refl _) _
    have hB : Blk (w.alloc (.cells R 5)) w.heap.size R 5 := heap_alloc_new w _
    obtain ⟨w3, hcp, ⟨cur, q1, q2, q3⟩, hch⟩ := copy_by (o := 0) (dLen := (1 + k) * 512) (dCap := (1 + k) * 512) hB (hb.keep hbl) (by rw [hRs]; omega)
    refine ⟨_, w3, (List.range ((1 + k) * 512)).map (fun j => if j < min bs.length ((1 + k) * 512) then bs.getD j 0 else 0), hmk, ⟨_, hcp⟩, by rw [List.length_map, List.length_range], ?_, hbl.trans (hch.below (by rw [World.size_alloc]; omega) (fun j e => by omega))⟩
    refine own_blk q1 (Nat.le_refl _) (by rw [q2]; exact hRs) (by unfold maxLen; omega) (fun j hj => ?_) (by rw [List.length_map, List.length_range])
    have e2 : ((List.range ((1 + k) * 512)).map (fun j => if j < min bs.length ((1 + k) * 512) then bs.getD j 0 else 0)).getD j 0 = if j < min bs.length ((1 + k) * 512) then bs.getD j 0 else 0 := by
      rw [List.getD_eq_getElem?_getD, List.getElem?_map, List.getElem?_range hj, Option.map_some, Option.getD_some]
    rw [q3 j, e2]
    by_cases h : j < min bs.length ((1 + k) * 512)
    · rw [if_pos (by omega), if_pos h, Nat.sub_zero]
    · rw [if_neg (by omega), if_neg h]; exact hRa j hj
  have HKEY : Hid _ := key
  clear key hb hvn
  by_cases h0 : z < 0
  · obtain ⟨q, hq⟩ : ∃ q : Nat, (q : Int) = -(z + 1) := ⟨(-(z + 1)).toNat, by omega⟩
    have ht : (-(z + 1)).tmod 80 = ((q % 80 : Nat) : Int) := by rw [← hq, Int.tmod_eq_emod_of_nonneg (by omega)]; omega
    obtain ⟨w2, w3, im, hmk, ⟨m, hcp⟩, hil, hown, hbl⟩ := HKEY.out (q % 80) (Nat.mod_lt _ (by decide))
    have hlt : q % 80 < 80 := Nat.mod_lt _ (by decide)
    have HF : Hid (im.length = (1 + q % 80) * 512 ∧ w3.ownsRow w.heap.size 5 1 (.slice (some ⟨w.heap.size, 0, none⟩) ((1 + q % 80) * 512) ((1 + q % 80) * 512)) ((1 + q % 80) * 512) (im.map B) ∧ Below w.heap.size w w3) := ⟨hil, hown, hbl⟩
    clear hil hown hbl HKEY hq
    generalize q % 80 = k at ht hmk hcp hlt HF
    obtain ⟨N, hN⟩ : ∃ N, N = (1 + k) * 512 := ⟨_, rfl⟩
    have HN : Hid (N = (1 + k) * 512) := hN
    rw [← hN] at hmk hcp HF
    clear hN
    go_enter Try.func23, Try.ntmps23
    go_wp2_with fail
    go_ret
    unfold ShPost
    exact ⟨1 + k, w.heap.size, im, by omega, by omega, by rw [← HN.out]; exact HF.out.1, by rw [← HN.out]; rfl, by rw [← HN.out]; exact HF.out.2.1, HF.out.2.2⟩
  · obtain ⟨q, hq⟩ : ∃ q : Nat, (q : Int) = z := ⟨z.toNat, by omega⟩
    subst hq
    have ht : (q : Int).tmod 80 = ((q % 80 : Nat) : Int) := by rw [Int.tmod_eq_emod_of_nonneg (by omega)]; omega
    obtain ⟨w2, w3, im, hmk, ⟨m, hcp⟩, hil, hown, hbl⟩ := HKEY.out (q % 80) (Nat.mod_lt _ (by decide))
    have hlt : q % 80 < 80 := Nat.mod_lt _ (by decide)
    have HF : Hid (im.length = (1 + q % 80) * 512 ∧ w3.ownsRow w.heap.size 5 1 (.slice (some ⟨w.heap.size, 0, none⟩) ((1 + q % 80) * 512) ((1 + q % 80) * 512)) ((1 + q % 80) * 512) (im.map B) ∧ Below w.heap.size w w3) := ⟨hil, hown, hbl⟩
    clear hil hown hbl HKEY
    generalize q % 80 = k at ht hmk hcp hlt HF
    obtain ⟨N, hN⟩ : ∃ N, N = (1 + k) * 512 := ⟨_, rfl⟩
    have HN : Hid (N = (1 + k) * 512) := hN
    rw [← hN] at hmk hcp HF
    clear hN
    go_enter Try.func23, Try.ntmps23
    go_wp2_with fail
    go_ret
    unfold ShPost
    exact ⟨1 + k, w.heap.size, im, by omega, by omega, by rw [← HN.out]; exact HF.out.1, by rw [← HN.out]; rfl, by rw [← HN.out]; exact HF.out.2.1, HF.out.2.2⟩
end Go.Proofs.Ytjpdcahodmomgaa
