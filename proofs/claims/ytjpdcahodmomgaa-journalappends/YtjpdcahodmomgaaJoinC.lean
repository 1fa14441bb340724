import Derived.Test.YtjpdcahodmomgaaJn23
import Derived.Deep.Cut
namespace Go.Proofs.Ytjpdcahodmomgaa
open Go.RowKit Go.PlainAid
set_option linter.unusedVariables false
set_option linter.unusedSimpArgs false
set_option maxRecDepth 100000 in
theorem count_any (n : Nat) (w : World) (hn : n ≤ 1000000000000) : Calls Try.prog 46 #[.int .i64 (n : Int)] w fun e w' => e = .returned (.int .i64 (kS n : Int)) ∧ w' = w := by
  by_cases h0 : n = 0
  · subst h0
    go_enter Try.func46, Try.ntmps46
    go_wp2_with fail
    go_ret
    exact ⟨rfl, rfl⟩
  · have hq : Int.tdiv ((n : Int) + 496 - 1) 496 = (((n + 495) / 496 : Nat) : Int) := by
      rw [Int.tdiv_eq_ediv_of_nonneg (by omega)]; omega
    have hk : kS n = (n + 495) / 496 := by unfold kS; omega
    have hne : ¬ ((n : Int) = 0) := by omega
    rw [hk]
    clear hk h0
    go_enter Try.func46, Try.ntmps46
    go_wp2_with fail
    all_goals (go_ret; exact ⟨ret_i64 (by omega), rfl⟩)
theorem imgL_sec (x : DV) (i : Nat) (hi : i < x.n) : ((imgL x).drop (i * 512)).take 8 = (secL x.b i).take 8 ∧ ((imgL x).drop (i * 512 + 504)).take 8 = (secL x.b i).drop 504 := by
  constructor
  · apply List.ext_getElem?
    intro j
    rw [List.getElem?_take, List.getElem?_take]
    split
    · rw [List.getElem?_drop, imgL_get _ _ (by omega), secL_get _ _ _ (by omega)]
    · rfl
  · apply List.ext_getElem?
    intro j
    rw [List.getElem?_take, List.getElem?_drop, List.getElem?_drop]
    split
    · rw [imgL_get _ _ (by omega), secL_get _ _ _ (by omega), Nat.add_assoc]
    · rw [List.getElem?_eq_none (by rw [secL_len]; omega)]
set_option maxRecDepth 100000 in
set_option maxHeartbeats 1600000 in
theorem alike_any {g c h mc N at' : Nat} {im m : List UInt8} (w : World) (hI : By w (.slice (some ⟨g, 0, none⟩) N c) im) (hM : By w (.slice (some ⟨h, 0, none⟩) 8 mc) m) (hat : at' + 8 ≤ N) (hN : N ≤ 100000000) :
    Calls Try.prog 68 #[.slice (some ⟨g, 0, none⟩) N c, .int .i64 (at' : Int), .slice (some ⟨h, 0, none⟩) 8 mc] w fun e w' => e = .returned (.bool ((im.drop at').take 8 == m)) ∧ ∃ q, w' = w.drewN q := by
  obtain ⟨_, _, _, eI, hIl, _, hIc⟩ := hI
  cases eI
  obtain ⟨_, _, _, eM, hMl, _, hMc⟩ := hM
  cases eM
  have HC : Hid (∀ i, i < 8 → ∃ u v : UInt8, im[at' + i]? = some u ∧ m[i]? = some v ∧ (∀ q, (w.drewN q).cell? ⟨g, at' + i, none⟩ = some (.int .u8 (u.toNat : Int))) ∧ (∀ q, (w.drewN q).cell? ⟨h, i, none⟩ = some (.int .u8 (v.toNat : Int)))) := fun i hi => by
    have h1 : im[at' + i]? = some (im[at' + i]'(by omega)) := List.getElem?_eq_getElem _
    have h2 : m[i]? = some (m[i]'(by omega)) := List.getElem?_eq_getElem _
    refine ⟨_, _, h1, h2, fun q => ?_, fun q => ?_⟩
    · have := hIc _ rfl (at' + i) (B (im[at' + i]'(by omega))) (by rw [List.getElem?_map, h1]; rfl)
      rw [addr_add, Nat.zero_add] at this
      exact this
    · have := hMc _ rfl i (B (m[i]'(by omega))) (by rw [List.getElem?_map, h2]; rfl)
      rw [addr_add, Nat.zero_add] at this
      exact this
  obtain ⟨R, hR⟩ : ∃ R, R = ((im.drop at').take 8 == m) := ⟨_, rfl⟩
  have HR : Hid (((∀ j, j < 8 → im[at' + j]? = m[j]?) → R = true) ∧ (∀ j, j < 8 → im[at' + j]? ≠ m[j]? → R = false)) := by
    refine ⟨fun h1 => ?_, fun j hj h1 => ?_⟩
    · rw [hR]
      refine beq_iff_eq.2 (List.ext_getElem? fun j => ?_)
      rw [List.getElem?_take]
      split
      · rw [List.getElem?_drop]; exact h1 j (by omega)
      · rw [List.getElem?_eq_none (by omega)]
    · rw [hR]
      refine beq_eq_false_iff_ne.2 (fun e => h1 ?_)
      rw [← e, List.getElem?_take, if_pos hj, List.getElem?_drop]
  rw [← hR]
  clear hIl hIc hMl hMc hR
  go_enter Try.func68, Try.ntmps68
  go_wp2_with fail
  go_loopw [7] (fun s7 wr => ∃ i : Nat, i ≤ 8 ∧ s7 = .int .i64 (i : Int) ∧ (∀ j, j < i → im[at' + j]? = m[j]?) ∧ ∃ q, wr = w.drewN q) (fun s7 _ => 8 - (intOf s7).toNat)
  case atStart => exact ⟨0, by omega, rfl, fun j hj => by omega, 0, rfl⟩
  case round =>
    obtain ⟨i, hi, rfl, hal, q, hw⟩ := hrel
    have HAL : Hid ((∀ j, j < i → im[at' + j]? = m[j]?) ∧ ∃ q, wr = w.drewN q) := ⟨hal, q, hw⟩
    by_cases hlt : i < 8
    · obtain ⟨u, v, k1, k2, k3, k4⟩ := HC.out i hlt
      have d1 : wr.cell? ⟨g, at' + i, none⟩ = some (.int .u8 (u.toNat : Int)) := by rw [hw]; exact k3 q
      have d2 : wr.cell? ⟨h, i, none⟩ = some (.int .u8 (v.toNat : Int)) := by rw [hw]; exact k4 q
      have hlti : (i : Int) < 8 := by omega
      clear hal hw k3 k4
      by_cases huv : u = v
      · have HE : Hid (im[at' + i]? = m[i]?) := by rw [Hid, k1, k2, huv]
        subst huv
        clear k1 k2
        go_wp2_with fail
        go_quiet (fail)
        have HN : Hid (∃ q, wr.drewN nq = w.drewN q) := by
          obtain ⟨q, e⟩ := HAL.out.2
          exact ⟨q + nq, by rw [e, World.drewN_drewN]⟩
        generalize wr.drewN nq = X at HN ⊢
        clear d1 d2
        go_wp2_with fail
        go_roundw
        case rel => exact ⟨i + 1, by omega, by go_num, fun j hj => by
          by_cases e : j = i
          · subst e; exact HE.out
          · exact HAL.out.1 j (by omega), HN.out⟩
        case measure => simp [intOf]; omega
      · have hne : ¬ ((u.toNat : Int) = (v.toNat : Int)) := fun e => huv (UInt8.toNat_inj.1 (by omega))
        have hneb : ((u.toNat : Int) == (v.toNat : Int)) = false := by simp [hne]
        have HE : Hid (R = false) := HR.out.2 i hlt (by rw [k1, k2]; intro e; exact huv (Option.some.inj e))
        obtain ⟨a, ha⟩ : ∃ a : Int, a = (u.toNat : Int) := ⟨_, rfl⟩
        obtain ⟨b, hb⟩ : ∃ b : Int, b = (v.toNat : Int) := ⟨_, rfl⟩
        rw [← ha] at d1 hne hneb
        rw [← hb] at d2 hne hneb
        clear k1 k2 huv ha hb
        go_wp2_with fail
        go_quiet (fail)
        have HN : Hid (∃ q, wr.drewN nq = w.drewN q) := by
          obtain ⟨q, e⟩ := HAL.out.2
          exact ⟨q + nq, by rw [e, World.drewN_drewN]⟩
        generalize wr.drewN nq = X at HN ⊢
        clear d1 d2
        go_wp2_with fail
        go_ret
        exact ⟨by rw [HE.out]; rfl, HN.out⟩
    · have hlti : ¬ ((i : Int) < 8) := by omega
      have HE : Hid (R = true) := HR.out.1 (fun j hj => hal j (by omega))
      clear hal hw
      go_wp2_with fail
      go_ret
      exact ⟨by rw [HE.out]; rfl, HAL.out.2⟩
end Go.Proofs.Ytjpdcahodmomgaa
namespace Go.Proofs.Ytjpdcahodmomgaa
open Go.RowKit Go.PlainAid
set_option linter.unusedVariables false
set_option linter.unusedSimpArgs false
theorem lit8 {w W : World} {L h : Nat} {m : List UInt8} (hB : Blk W h (m.map B).toArray 5) (hL : L ≤ h) (hm : m.length = 8) : W.ownsRow L 5 1 (.slice (some ⟨h, 0, none⟩) 8 8) 8 (m.map B) :=
  own_blk hB hL (by simp [hm]) (by unfold maxLen; omega) (fun j hj => by
    rw [List.getElem?_toArray, List.getElem?_map, List.getD_eq_getElem?_getD, List.getElem?_eq_getElem (by omega)]; rfl) hm
theorem mark_cells (num place len : Nat) (z : Int) (kd : UInt8) (hz : z = (place : Int)) (h1 : num ≤ 1000000) (h2 : place ≤ 100) (h3 : len ≤ 8192) : (#[.int .u8 ((num : Int) % 256), .int .u8 ((num : Int) / 256 % 256), .int .u8 ((num : Int) / 65536), .int .u8 ((num : Int) / 16777216), .int .u8 z, .int .u8 ((len : Int) % 256), .int .u8 ((len : Int) / 256), .int .u8 (kd.toNat : Int)] : Array Value) = #[B (byt (num / 2 ^ 0)), B (byt (num / 2 ^ 8)), B (byt (num / 2 ^ 16)), B (byt (num / 2 ^ 24)), B (byt place), B (byt len), B (byt (len / 256)), B kd] := by
  have e0 : B (byt (num / 2 ^ 0)) = .int .u8 ((num : Int) % 256) := by rw [B_byt]; congr 1; omega
  have e1 : B (byt (num / 2 ^ 8)) = .int .u8 ((num : Int) / 256 % 256) := by rw [B_byt]; congr 1 <;> omega
  have e2 : B (byt (num / 2 ^ 16)) = .int .u8 ((num : Int) / 65536) := by rw [B_byt]; congr 1; omega
  have e3 : B (byt (num / 2 ^ 24)) = .int .u8 ((num : Int) / 16777216) := by rw [B_byt]; congr 1; omega
  have e4 : B (byt place) = .int .u8 z := by rw [B_byt, hz]; congr 1; omega
  have e5 : B (byt len) = .int .u8 ((len : Int) % 256) := B_byt len
  have e6 : B (byt (len / 256)) = .int .u8 ((len : Int) / 256) := by rw [B_byt]; congr 1; omega
  rw [e0, e1, e2, e3, e4, e5, e6]
  rfl
set_option maxRecDepth 100000 in
set_option maxHeartbeats 1600000 in
theorem rmark_any (num place len : Nat) (w : World) (h1 : num ≤ 1000000) (h2 : place ≤ 100) (h3 : len ≤ 8192) : Calls Try.prog 65 #[.int .i64 (num : Int), .int .i64 (place : Int), .int .i64 (len : Int)] w fun e w' => ∃ h, e = .returned (.slice (some ⟨h, 0, none⟩) 8 8) ∧ w'.ownsRow w.heap.size 5 1 (.slice (some ⟨h, 0, none⟩) 8 8) 8 ((markL num place len).map B) ∧ Below w.heap.size w w' := by
  have HK : Hid _ := count_any len w (by omega)
  have hkp := kS_pos len
  have hkq := kS_le len h3
  obtain ⟨H, hH⟩ : ∃ H, H = w.heap.size := ⟨_, rfl⟩
  have HH : Hid (H = w.heap.size) := hH
  obtain ⟨k, hk⟩ : ∃ k, k = kS len := ⟨_, rfl⟩
  have HKK : Hid (k = kS len) := hk
  rw [← hk] at HK hkp hkq
  have e0 : (num : Int) % 256 = ((num % 256 : Nat) : Int) := by omega
  have s8 : (num : Int) / 256 = ((num / 256 : Nat) : Int) := by omega
  have s16 : (num : Int) / 65536 = ((num / 65536 : Nat) : Int) := by omega
  have s24 : (num : Int) / 16777216 = ((num / 16777216 : Nat) : Int) := by omega
  have HF : Hid (∀ kd : UInt8, kd = (if place + 1 = k then 2 else 1) → ∀ W, Blk W H #[B (byt (num / 2 ^ 0)), B (byt (num / 2 ^ 8)), B (byt (num / 2 ^ 16)), B (byt (num / 2 ^ 24)), B (byt place), B (byt len), B (byt (len / 256)), B kd] 5 → W.ownsRow w.heap.size 5 1 (.slice (some ⟨H, 0, none⟩) 8 8) 8 ((markL num place len).map B)) := fun kd hkd W hW => by
    refine lit8 (w := w) (m := markL num place len) ?_ (by rw [hH]; exact Nat.le_refl _) (markL_len _ _ _)
    unfold markL
    rw [← hk, ← hkd]
    exact hW
  rw [← hH] at HF ⊢
  clear hk e0 s8 s16 s24
  by_cases hkk : place + 1 = k
  · have hkk' : (place : Int) = (k : Int) - 1 := by omega
    have HG : Hid _ := HF.out 2 (by rw [if_pos hkk])
    clear HF hkk
    go_enter Try.func65, Try.ntmps65
    go_wp2_with fail
    refine Calls.mono HK.out ?_
    rintro e wk ⟨rfl, hwk⟩
    replace hwk := hwk.symm
    subst hwk
    clear HK
    go_wp2_with fail
    have E8 := mark_cells num place len ((k : Int) - 1) 2 hkk'.symm h1 h2 h3
    have HG2 := HG.out _ (heap_alloc_new w _ |> fun h => by rw [← HH.out] at h; rw [← E8]; exact h)
    go_ret
    refine ⟨w.heap.size, rfl, ?_, ?_⟩
    · rw [← HH.out, ← E8] at *
      exact HG2
    · rw [HH.out]; exact (Below.refl _ _).alloc (Nat.le_refl _) _
  · have hkk' : ¬ (place : Int) = (k : Int) - 1 := by omega
    have HG : Hid _ := HF.out 1 (by rw [if_neg hkk])
    clear HF hkk
    go_enter Try.func65, Try.ntmps65
    go_wp2_with fail
    refine Calls.mono HK.out ?_
    rintro e wk ⟨rfl, hwk⟩
    replace hwk := hwk.symm
    subst hwk
    clear HK
    go_wp2_with fail
    have E8 := mark_cells num place len (place : Int) 1 rfl h1 h2 h3
    go_ret
    refine ⟨w.heap.size, rfl, ?_, ?_⟩
    · have HG2 := HG.out _ (heap_alloc_new w _ |> fun h => by rw [← HH.out] at h; rw [← E8]; exact h)
      rw [← HH.out, ← E8] at *
      exact HG2
    · rw [HH.out]; exact (Below.refl _ _).alloc (Nat.le_refl _) _
end Go.Proofs.Ytjpdcahodmomgaa
