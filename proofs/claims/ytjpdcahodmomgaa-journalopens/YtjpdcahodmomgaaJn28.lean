import Derived.Test.YtjpdcahodmomgaaJn27
namespace Go.Proofs.Ytjpdcahodmomgaa
open Go.RowKit Go.PlainAid
set_option linter.unusedVariables false
set_option linter.unusedSimpArgs false
theorem lit8 {w W : World} {L h : Nat} {m : List UInt8} (hB : Blk W h (m.map B).toArray 5) (hL : L ≤ h) (hm : m.length = 8) : W.ownsRow L 5 1 (.slice (some ⟨h, 0, none⟩) 8 8) 8 (m.map B) :=
  own_blk hB hL (by simp [hm]) (by unfold maxLen; omega) (fun j hj => by
    rw [List.getElem?_toArray, List.getElem?_map, List.getD_eq_getElem?_getD, List.getElem?_eq_getElem (by omega)]; rfl) hm
theorem mark_cells (num place len : Nat) (z : Int) (kd : UInt8) (hz : z = (place : Int)) (h1 : num ≤ 1000000) (h2 : place ≤ 100) (h3 : len ≤ 8192) : (#[.int .u8 ((num : Int) % 256), .int .u8 ((num : Int) / 256 % 256), .int .u8 ((num : Int) / 65536), .int .u8 ((num : Int) / 16777216), .int .u8 z, .int .u8 ((len : Int) % 256), .int .u8 ((len : Int) / 256), .int .u8 (kd.toNat : Int)] : Array Value) = #[B (byt (num / 2 ^ 0)), B (byt (num / 2 ^ 8)), B (byt (num / 2 ^ 16)), B (byt (num / 2 ^ 24)), B (byt place), B (byt len), B (byt (len / 256)), B kd] := by
  have e0 : B (byt (num / 2 ^ 0)) = .int .u8 ((num : Int) % 256) := by rw [B_byt]; congr 1; omega
  have e1 : B (byt (num / 2 ^ 8)) = .int .u8 ((num : Int) / 256 % 256) := by rw [B_byt]; congr 1 <;> omega
  have e2 : B (byt (num / 2 ^ 16)) = .int .u8 ((num : Int) / 65536) := by rw [B_byt]; congr 1; omega
  have e3 : B (byt (num / 2 ^ 24)) = .int .u8 ((num : Int) / 16777216) := by rw [B_byt]; congr 1; omega
  have e4 : B (byt place) = .int .u8 z := by rw [B_byt, hz]; congr 1; omega
  have e5 : B (byt len) = .int .u8 ((len : Int) % 256) := B_byt len
  have e6 : B (byt (len / 256)) = .int .u8 ((len : Int) / 256) := by rw [B_byt]; congr 1; omega
  rw [e0, e1, e2, e3, e4, e5, e6]
  rfl
set_option maxRecDepth 100000 in
set_option maxHeartbeats 1600000 in
theorem rmark_any (num place len : Nat) (w : World) (h1 : num ≤ 1000000) (h2 : place ≤ 100) (h3 : len ≤ 8192) : Calls Try.prog 65 #[.int .i64 (num : Int), .int .i64 (place : Int), .int .i64 (len : Int)] w fun e w' => ∃ h, e = .returned (.slice (some ⟨h, 0, none⟩) 8 8) ∧ w'.ownsRow w.heap.size 5 1 (.slice (some ⟨h, 0, none⟩) 8 8) 8 ((markL num place len).map B) ∧ Below w.heap.size w w' := by
  have HK : Hid _ := count_any len w (by omega)
  have hkp := kS_pos len
  have hkq := kS_le len h3
  obtain ⟨H, hH⟩ : ∃ H, H = w.heap.size := ⟨_, rfl⟩
  have HH : Hid (H = w.heap.size) := hH
  obtain ⟨k, hk⟩ : ∃ k, k = kS len := ⟨_, rfl⟩
  have HKK : Hid (k = kS len) := hk
  rw [← hk] at HK hkp hkq
  have e0 : (num : Int) % 256 = ((num % 256 : Nat) : Int) := by omega
  have s8 : (num : Int) / 256 = ((num / 256 : Nat) : Int) := by omega
  have s16 : (num : Int) / 65536 = ((num / 65536 : Nat) : Int) := by omega
  have s24 : (num : Int) / 16777216 = ((num / 16777216 : Nat) : Int) := by omega
  have HF : Hid (∀ kd : UInt8, kd = (if place + 1 = k then 2 else 1) → ∀ W, Blk W H #[B (byt (num / 2 ^ 0)), B (byt (num / 2 ^ 8)), B (byt (num / 2 ^ 16)), B (byt (num / 2 ^ 24)), B (byt place), B (byt len), B (byt (len / 256)), B kd] 5 → W.ownsRow w.heap.size 5 1 (.slice (some ⟨H, 0, none⟩) 8 8) 8 ((markL num place len).map B)) := fun kd hkd W hW => by
    refine lit8 (w := w) (m := markL num place len) ?_ (by rw [hH]; exact Nat.le_refl _) (markL_len _ _ _)
    unfold markL
    rw [← hk, ← hkd]
    exact hW
  rw [← hH] at HF ⊢
  clear hk e0 s8 s16 s24
  by_cases hkk : place + 1 = k
  · have hkk' : (place : Int) = (k : Int) - 1 := by omega
    have HG : Hid _ := HF.out 2 (by rw [if_pos hkk])
    clear HF hkk
    go_enter Try.func65, Try.ntmps65
    go_wp2_with fail
    refine Calls.mono HK.out ?_
    rintro e wk ⟨rfl, hwk⟩
    replace hwk := hwk.symm
    subst hwk
    clear HK
    go_wp2_with fail
    have E8 := mark_cells num place len ((k : Int) - 1) 2 hkk'.symm h1 h2 h3
    have HG2 := HG.out _ (heap_alloc_new w _ |> fun h => by rw [← HH.out] at h; rw [← E8]; exact h)
    go_ret
    refine ⟨w.heap.size, rfl, ?_, ?_⟩
    · rw [← HH.out, ← E8] at *
      exact HG2
    · rw [HH.out]; exact (Below.refl _ _).alloc (Nat.le_refl _) _
  · have hkk' : ¬ (place : Int) = (k : Int) - 1 := by omega
    have HG : Hid _ := HF.out 1 (by rw [if_neg hkk])
    clear HF hkk
    go_enter Try.func65, Try.ntmps65
    go_wp2_with fail
    refine Calls.mono HK.out ?_
    rintro e wk ⟨rfl, hwk⟩
    replace hwk := hwk.symm
    subst hwk
    clear HK
    go_wp2_with fail
    have E8 := mark_cells num place len (place : Int) 1 rfl h1 h2 h3
    go_ret
    refine ⟨w.heap.size, rfl, ?_, ?_⟩
    · have HG2 := HG.out _ (heap_alloc_new w _ |> fun h => by rw [← HH.out] at h; rw [← E8]; exact h)
      rw [← HH.out, ← E8] at *
      exact HG2
    · rw [HH.out]; exact (Below.refl _ _).alloc (Nat.le_refl _) _
end Go.Proofs.Ytjpdcahodmomgaa
