import Derived.Test.YtcnokgphioigoaaJn1
import Derived.Deep.Cut
namespace Go.Proofs.Ytcnokgphioigoaa
open Go.RowKit Go.PlainAid
set_option linter.unusedVariables false
set_option linter.unusedSimpArgs false
def byt (k : Nat) : UInt8 := UInt8.ofNat k
theorem B_byt (k : Nat) : B (byt k) = .int .u8 ((k : Int) % 256) := by
  unfold B byt
  congr 1
/-- The mark of a sector. -/
def markL (num place len : Nat) : List UInt8 := [byt (num / 2 ^ 0), byt (num / 2 ^ 8), byt (num / 2 ^ 16), byt (num / 2 ^ 24), byt place, byt len, byt (len / 256), if place + 1 = kS len then 2 else 1]
theorem markL_len (num place len : Nat) : (markL num place len).length = 8 := rfl
def markA (num place len : Nat) : Array Value := ((markL num place len).map B).toArray
theorem blk_get {w : World} {b : Nat} {C : Array Value} {T : TypeId} (h : Blk w b C T) {j : Nat} (hj : j < C.size) : ∃ x, w.cell? ⟨b, j, none⟩ = some x := ⟨C[j], (h.cell j).trans (Array.getElem?_eq_getElem hj)⟩
theorem below_set {L : Nat} {w W : World} (h : Below L w W) (j : Nat) (v : Value) : Below L w (W.setCell ⟨L, j, none⟩ v) := ⟨h.os, h.tape, h.output, by rw [show (W.setCell ⟨L, j, none⟩ v).heap.size = W.heap.size from by simp [World.setCell]]; exact h.size, fun k hk => (Below.heap_setCell _ _ _ _ (by show k ≠ L; omega)).trans (h.block k hk)⟩
theorem arr8 {C : Array Value} (h : C.size = 8) : ∃ c0 c1 c2 c3 c4 c5 c6 c7, C = #[c0, c1, c2, c3, c4, c5, c6, c7] := by
  obtain ⟨l⟩ := C
  match l, h with
  | [c0, c1, c2, c3, c4, c5, c6, c7], _ => exact ⟨c0, c1, c2, c3, c4, c5, c6, c7, rfl⟩
set_option maxRecDepth 100000 in
set_option maxHeartbeats 1600000 in
theorem mark_any (num place len : Nat) (w : World) (h1 : num ≤ 1000000) (h2 : place ≤ 100) (h3 : len ≤ 8192) : Calls Try.prog 51 #[.int .i64 (num : Int), .int .i64 (place : Int), .int .i64 (len : Int)] w fun e w' => e = .returned (.agg (markA num place len)) ∧ Below w.heap.size w w' := by
  obtain ⟨H, hH⟩ : ∃ H, H = w.heap.size := ⟨_, rfl⟩
  have HH : Hid (H = w.heap.size) := hH
  have HK : Hid _ := kS_any len w (by omega)
  obtain ⟨Z, hZ⟩ : ∃ Z, Z = Array.replicate 8 (Value.int .u8 0) := ⟨_, rfl⟩
  go_enter Try.func51, Try.ntmps51
  go_wp2_with fail
  rw [← hH]
  clear hH
  go_loopw [9] (fun s9 wr => ∃ i : Nat, i ≤ 4 ∧ s9 = .int .i64 (i : Int) ∧ ∃ C, Blk wr (H + 1) C 96 ∧ C.size = 8 ∧ (∀ j, j < i → C[j]? = some (B (byt (num / 2 ^ (8 * j))))) ∧ Blk wr H Z 96 ∧ Below H w wr) (fun s9 _ => 4 - (intOf s9).toNat)
  case atStart =>
    refine ⟨0, by omega, rfl, Z, ?_, by rw [hZ]; rfl, fun j hj => by omega, ?_, ?_⟩
    · rw [HH.out, hZ]
      have := heap_alloc_new (w.alloc (Obj.cells (Array.replicate 8 (Value.int .u8 0)) 96)) (Obj.cells (Array.replicate 8 (Value.int .u8 0)) 96)
      rw [World.size_alloc] at this
      exact this
    · rw [HH.out, hZ]
      exact (Below.heap_alloc _ _ _ (by rw [World.size_alloc]; omega)).trans (heap_alloc_new w _)
    · rw [HH.out]
      exact ((Below.refl _ _).alloc (Nat.le_refl _) _).alloc (by rw [World.size_alloc]; omega) _
  case round =>
    obtain ⟨i, hi, rfl, C, hB, hs, hC, hZB, hb⟩ := hrel
    by_cases hlt : i < 4
    · obtain ⟨x, hx⟩ := blk_get hB (j := i) (by omega)
      have hf := hB.frozen i
      have E1 : Hid (Value.int .u8 ((num : Int) / 2 ^ (8 * i) % 256) = B (byt (num / 2 ^ (8 * i)))) := by rw [Hid, B_byt]; congr 1
      have HN : Hid (∃ C, Blk (wr.setCell ⟨H + 1, i, none⟩ (B (byt (num / 2 ^ (8 * i))))) (H + 1) C 96 ∧ C.size = 8 ∧ (∀ j, j < i + 1 → C[j]? = some (B (byt (num / 2 ^ (8 * j))))) ∧ Blk (wr.setCell ⟨H + 1, i, none⟩ (B (byt (num / 2 ^ (8 * i))))) H Z 96 ∧ Below H w (wr.setCell ⟨H + 1, i, none⟩ (B (byt (num / 2 ^ (8 * i)))))) := by
        refine ⟨_, hB.set i _, by simpa using hs, fun j hj => ?_, (Below.heap_setCell _ _ _ _ (by show H ≠ H + 1; omega)).trans hZB, hb.trans ((setCell_chg _ _ _ _).below (by have := hZB.lt; omega) (fun k e => by omega))⟩
        by_cases e : j = i
        · subst e
          rw [Array.getElem?_setIfInBounds_self_of_lt (by omega)]
        · rw [Array.getElem?_setIfInBounds_ne (by omega)]
          exact hC j (by omega)
      clear hB hs hC hZB hb
      go_wp2_with fail
      go_roundw
      case rel => rw [E1.out]; exact ⟨i + 1, by omega, by go_num, HN.out⟩
      case measure => simp [intOf]; omega
    · have hn : ¬ ((i : Int) < 4) := by omega
      have hi4 : i = 4 := by omega
      obtain ⟨x4, hx4⟩ := blk_get hB (j := 4) (by omega)
      obtain ⟨x5, hx5⟩ := blk_get hB (j := 5) (by omega)
      obtain ⟨x6, hx6⟩ := blk_get hB (j := 6) (by omega)
      obtain ⟨x7, hx7⟩ := blk_get hB (j := 7) (by omega)
      have f4 := hB.frozen 4
      have f5 := hB.frozen 5
      have f6 := hB.frozen 6
      have f7 := hB.frozen 7
      have HC : Hid _ := hC
      have HBZ : Hid (Blk wr (H + 1) C 96 ∧ C.size = 8 ∧ Blk wr H Z 96 ∧ Below H w wr) := ⟨hB, hs, hZB, hb⟩
      clear hB hs hC hZB hb
      go_upto_region 10 with fail
      obtain ⟨X, hX⟩ : ∃ X, X = ((((wr.setCell ⟨H + 1, 4, none⟩ (Value.int .u8 (place : Int))).setCell ⟨H + 1, 5, none⟩ (Value.int .u8 ((len : Int) % 256))).setCell ⟨H + 1, 6, none⟩ (Value.int .u8 ((len : Int) / 256))).setCell ⟨H + 1, 7, none⟩ (Value.int .u8 1)) := ⟨_, rfl⟩
      rw [← hX]
      have hBX : Blk X (H + 1) #[B (byt (num / 2 ^ 0)), B (byt (num / 2 ^ 8)), B (byt (num / 2 ^ 16)), B (byt (num / 2 ^ 24)), B (byt place), B (byt len), B (byt (len / 256)), Value.int .u8 1] 96 := by
        have h9 := (((HBZ.out.1.set 4 (Value.int .u8 (place : Int))).set 5 (Value.int .u8 ((len : Int) % 256))).set 6 (Value.int .u8 ((len : Int) / 256))).set 7 (Value.int .u8 1)
        rw [← hX] at h9
        obtain ⟨c0, c1, c2, c3, c4, c5, c6, c7, hc⟩ := arr8 HBZ.out.2.1
        subst hc
        have g0 := HC.out 0 (by omega)
        have g1 := HC.out 1 (by omega)
        have g2 := HC.out 2 (by omega)
        have g3 := HC.out 3 (by omega)
        cases g0
        cases g1
        cases g2
        cases g3
        have e4 : B (byt place) = Value.int .u8 (place : Int) := by rw [B_byt]; congr 1; omega
        have e5 : B (byt len) = Value.int .u8 ((len : Int) % 256) := B_byt len
        have e6 : B (byt (len / 256)) = Value.int .u8 ((len : Int) / 256) := by rw [B_byt]; congr 1; omega
        rw [e4, e5, e6]
        exact h9
      have hZX : Blk X H Z 96 ∧ Below H w X := by
        have hw : ∀ (W : World) (j : Nat) (v : Value), Blk W H Z 96 → Below H w W → Blk (W.setCell ⟨H + 1, j, none⟩ v) H Z 96 ∧ Below H w (W.setCell ⟨H + 1, j, none⟩ v) := fun W j v h1 h2 => ⟨(Below.heap_setCell _ _ _ _ (by show H ≠ H + 1; omega)).trans h1, h2.trans ((setCell_chg _ _ _ _).below (by have := h1.lt; omega) (fun k e => by omega))⟩
        have h4 := hw wr 4 (Value.int .u8 (place : Int)) HBZ.out.2.2.1 HBZ.out.2.2.2
        have h5 := hw _ 5 (Value.int .u8 ((len : Int) % 256)) h4.1 h4.2
        have h6 := hw _ 6 (Value.int .u8 ((len : Int) / 256)) h5.1 h5.2
        have h7 := hw _ 7 (Value.int .u8 1) h6.1 h6.2
        rw [hX]
        exact h7
      have HKX : Hid _ := kS_any len X (by omega)
      have HX : Hid _ := hBX
      have HZX : Hid _ := hZX
      clear hX hBX hZX HK HBZ HC hx4 hx5 hx6 hx7 f4 f5 f6 f7 x4 x5 x6 x7
      go_wp2_with fail
      refine Calls.mono HKX.out ?_
      rintro e wk ⟨rfl, hwk⟩
      replace hwk := hwk.symm
      subst hwk
      clear HKX
      have hkp := kS_pos len
      have hkq := kS_le len h3
      obtain ⟨k, hk⟩ : ∃ k, k = kS len := ⟨_, rfl⟩
      have HKK : Hid (k = kS len) := hk
      rw [← hk] at hkp hkq ⊢
      clear hk
      have f7 := Blk.frozen HX.out 7
      have d7 : X.cell? ⟨H + 1, 7, none⟩ = some (Value.int .u8 1) := Blk.cell HX.out 7
      by_cases hkk : place + 1 = k
      · have hkk' : (place : Int) = (k : Int) - 1 := by omega
        have e2 : markA num place len = #[B (byt (num / 2 ^ 0)), B (byt (num / 2 ^ 8)), B (byt (num / 2 ^ 16)), B (byt (num / 2 ^ 24)), B (byt place), B (byt len), B (byt (len / 256)), Value.int .u8 2] := by
          unfold markA markL
          rw [← HKK.out, if_pos hkk]
          rfl
        have E2 : Hid _ := e2
        clear e2
        go_upto_region 12 with fail
        have hB2 := Blk.set HX.out 7 (Value.int .u8 2)
        have hZ2 : Blk (X.setCell ⟨H + 1, 7, none⟩ (Value.int .u8 2)) H Z 96 := (Below.heap_setCell _ _ _ _ (by show H ≠ H + 1; omega)).trans HZX.out.1
        have hb2 : Below H w (X.setCell ⟨H + 1, 7, none⟩ (Value.int .u8 2)) := HZX.out.2.trans ((setCell_chg _ _ _ _).below (by have := Blk.lt HZX.out.1; omega) (fun k e => by omega))
        obtain ⟨Y, hY⟩ : ∃ Y, Y = X.setCell ⟨H + 1, 7, none⟩ (Value.int .u8 2) := ⟨_, rfl⟩
        rw [← hY] at hB2 hZ2 hb2 ⊢
        clear hY HX HZX d7 f7
        have hB3 : Blk Y (H + 1) #[B (byt (num / 2 ^ 0)), B (byt (num / 2 ^ 8)), B (byt (num / 2 ^ 16)), B (byt (num / 2 ^ 24)), B (byt place), B (byt len), B (byt (len / 256)), Value.int .u8 2] 96 := hB2
        clear hB2
        obtain ⟨n0, hn0⟩ : ∃ n, B (byt (num / 2 ^ 0)) = .int .u8 n := ⟨_, rfl⟩
        have E2 : Hid _ := hn0 ▸ E2.out
        rw [hn0] at hB3
        clear hn0
        obtain ⟨n1, hn1⟩ : ∃ n, B (byt (num / 2 ^ 8)) = .int .u8 n := ⟨_, rfl⟩
        have E2 : Hid _ := hn1 ▸ E2.out
        rw [hn1] at hB3
        clear hn1
        obtain ⟨n2, hn2⟩ : ∃ n, B (byt (num / 2 ^ 16)) = .int .u8 n := ⟨_, rfl⟩
        have E2 : Hid _ := hn2 ▸ E2.out
        rw [hn2] at hB3
        clear hn2
        obtain ⟨n3, hn3⟩ : ∃ n, B (byt (num / 2 ^ 24)) = .int .u8 n := ⟨_, rfl⟩
        have E2 : Hid _ := hn3 ▸ E2.out
        rw [hn3] at hB3
        clear hn3
        obtain ⟨n4, hn4⟩ : ∃ n, B (byt place) = .int .u8 n := ⟨_, rfl⟩
        have E2 : Hid _ := hn4 ▸ E2.out
        rw [hn4] at hB3
        clear hn4
        obtain ⟨n5, hn5⟩ : ∃ n, B (byt len) = .int .u8 n := ⟨_, rfl⟩
        have E2 : Hid _ := hn5 ▸ E2.out
        rw [hn5] at hB3
        clear hn5
        obtain ⟨n6, hn6⟩ : ∃ n, B (byt (len / 256)) = .int .u8 n := ⟨_, rfl⟩
        have E2 : Hid _ := hn6 ▸ E2.out
        rw [hn6] at hB3
        clear hn6
        rw [hZ] at hZ2
        have y0 : Y.cell? ⟨H + 1, 0, none⟩ = some (.int .u8 n0) := hB3.cell 0
        have z0 : Y.cell? ⟨H, 0, none⟩ = some (.int .u8 0) := hZ2.cell 0
        have g0 : Y.frozen? ⟨H, 0, none⟩ = false := hZ2.frozen 0
        have y1 : Y.cell? ⟨H + 1, 1, none⟩ = some (.int .u8 n1) := hB3.cell 1
        have z1 : Y.cell? ⟨H, 1, none⟩ = some (.int .u8 0) := hZ2.cell 1
        have g1 : Y.frozen? ⟨H, 1, none⟩ = false := hZ2.frozen 1
        have y2 : Y.cell? ⟨H + 1, 2, none⟩ = some (.int .u8 n2) := hB3.cell 2
        have z2 : Y.cell? ⟨H, 2, none⟩ = some (.int .u8 0) := hZ2.cell 2
        have g2 : Y.frozen? ⟨H, 2, none⟩ = false := hZ2.frozen 2
        have y3 : Y.cell? ⟨H + 1, 3, none⟩ = some (.int .u8 n3) := hB3.cell 3
        have z3 : Y.cell? ⟨H, 3, none⟩ = some (.int .u8 0) := hZ2.cell 3
        have g3 : Y.frozen? ⟨H, 3, none⟩ = false := hZ2.frozen 3
        have y4 : Y.cell? ⟨H + 1, 4, none⟩ = some (.int .u8 n4) := hB3.cell 4
        have z4 : Y.cell? ⟨H, 4, none⟩ = some (.int .u8 0) := hZ2.cell 4
        have g4 : Y.frozen? ⟨H, 4, none⟩ = false := hZ2.frozen 4
        have y5 : Y.cell? ⟨H + 1, 5, none⟩ = some (.int .u8 n5) := hB3.cell 5
        have z5 : Y.cell? ⟨H, 5, none⟩ = some (.int .u8 0) := hZ2.cell 5
        have g5 : Y.frozen? ⟨H, 5, none⟩ = false := hZ2.frozen 5
        have y6 : Y.cell? ⟨H + 1, 6, none⟩ = some (.int .u8 n6) := hB3.cell 6
        have z6 : Y.cell? ⟨H, 6, none⟩ = some (.int .u8 0) := hZ2.cell 6
        have g6 : Y.frozen? ⟨H, 6, none⟩ = false := hZ2.frozen 6
        have y7 : Y.cell? ⟨H + 1, 7, none⟩ = some (Value.int .u8 2) := hB3.cell 7
        have z7 : Y.cell? ⟨H, 7, none⟩ = some (.int .u8 0) := hZ2.cell 7
        have g7 : Y.frozen? ⟨H, 7, none⟩ = false := hZ2.frozen 7
        have HB3 : Hid _ := hB3
        have HZ2 : Hid _ := hZ2
        have HB2 : Hid _ := hb2
        clear hB3 hZ2 hb2
        go_wp2_with fail
        refine bodyPost_ret (results_cell_row (ty := 96) (p := 6) rfl _ _ H 96 #[.int .u8 n0, .int .u8 n1, .int .u8 n2, .int .u8 n3, .int .u8 n4, .int .u8 n5, .int .u8 n6, .int .u8 2] (0, 0) _ rfl (show Blk _ H _ 96 from ((((((((Blk.set HZ2.out 0 _).set 1 _).set 2 _).set 3 _).set 4 _).set 5 _).set 6 _).set 7 _)) Try.underlying96 rfl (by kernel_rfl)) rfl ?_
        refine ⟨by rw [E2.out], ?_⟩
        rw [← HH.out]
        exact below_set (below_set (below_set (below_set (below_set (below_set (below_set (below_set HB2.out _ _) _ _) _ _) _ _) _ _) _ _) _ _) _ _
      · have hkk' : ¬ (place : Int) = (k : Int) - 1 := by omega
        have e2 : markA num place len = #[B (byt (num / 2 ^ 0)), B (byt (num / 2 ^ 8)), B (byt (num / 2 ^ 16)), B (byt (num / 2 ^ 24)), B (byt place), B (byt len), B (byt (len / 256)), Value.int .u8 1] := by
          unfold markA markL
          rw [← HKK.out, if_neg hkk]
          rfl
        have E2 : Hid _ := e2
        clear e2
        go_upto_region 12 with fail
        have hB2 := HX.out
        have hZ2 := HZX.out.1
        have hb2 := HZX.out.2
        obtain ⟨Y, hY⟩ : ∃ Y, Y = X := ⟨_, rfl⟩
        rw [← hY] at hB2 hZ2 hb2 ⊢
        clear hY HX HZX d7 f7
        have hB3 : Blk Y (H + 1) #[B (byt (num / 2 ^ 0)), B (byt (num / 2 ^ 8)), B (byt (num / 2 ^ 16)), B (byt (num / 2 ^ 24)), B (byt place), B (byt len), B (byt (len / 256)), Value.int .u8 1] 96 := hB2
        clear hB2
        obtain ⟨n0, hn0⟩ : ∃ n, B (byt (num / 2 ^ 0)) = .int .u8 n := ⟨_, rfl⟩
        have E2 : Hid _ := hn0 ▸ E2.out
        rw [hn0] at hB3
        clear hn0
        obtain ⟨n1, hn1⟩ : ∃ n, B (byt (num / 2 ^ 8)) = .int .u8 n := ⟨_, rfl⟩
        have E2 : Hid _ := hn1 ▸ E2.out
        rw [hn1] at hB3
        clear hn1
        obtain ⟨n2, hn2⟩ : ∃ n, B (byt (num / 2 ^ 16)) = .int .u8 n := ⟨_, rfl⟩
        have E2 : Hid _ := hn2 ▸ E2.out
        rw [hn2] at hB3
        clear hn2
        obtain ⟨n3, hn3⟩ : ∃ n, B (byt (num / 2 ^ 24)) = .int .u8 n := ⟨_, rfl⟩
        have E2 : Hid _ := hn3 ▸ E2.out
        rw [hn3] at hB3
        clear hn3
        obtain ⟨n4, hn4⟩ : ∃ n, B (byt place) = .int .u8 n := ⟨_, rfl⟩
        have E2 : Hid _ := hn4 ▸ E2.out
        rw [hn4] at hB3
        clear hn4
        obtain ⟨n5, hn5⟩ : ∃ n, B (byt len) = .int .u8 n := ⟨_, rfl⟩
        have E2 : Hid _ := hn5 ▸ E2.out
        rw [hn5] at hB3
        clear hn5
        obtain ⟨n6, hn6⟩ : ∃ n, B (byt (len / 256)) = .int .u8 n := ⟨_, rfl⟩
        have E2 : Hid _ := hn6 ▸ E2.out
        rw [hn6] at hB3
        clear hn6
        rw [hZ] at hZ2
        have y0 : Y.cell? ⟨H + 1, 0, none⟩ = some (.int .u8 n0) := hB3.cell 0
        have z0 : Y.cell? ⟨H, 0, none⟩ = some (.int .u8 0) := hZ2.cell 0
        have g0 : Y.frozen? ⟨H, 0, none⟩ = false := hZ2.frozen 0
        have y1 : Y.cell? ⟨H + 1, 1, none⟩ = some (.int .u8 n1) := hB3.cell 1
        have z1 : Y.cell? ⟨H, 1, none⟩ = some (.int .u8 0) := hZ2.cell 1
        have g1 : Y.frozen? ⟨H, 1, none⟩ = false := hZ2.frozen 1
        have y2 : Y.cell? ⟨H + 1, 2, none⟩ = some (.int .u8 n2) := hB3.cell 2
        have z2 : Y.cell? ⟨H, 2, none⟩ = some (.int .u8 0) := hZ2.cell 2
        have g2 : Y.frozen? ⟨H, 2, none⟩ = false := hZ2.frozen 2
        have y3 : Y.cell? ⟨H + 1, 3, none⟩ = some (.int .u8 n3) := hB3.cell 3
        have z3 : Y.cell? ⟨H, 3, none⟩ = some (.int .u8 0) := hZ2.cell 3
        have g3 : Y.frozen? ⟨H, 3, none⟩ = false := hZ2.frozen 3
        have y4 : Y.cell? ⟨H + 1, 4, none⟩ = some (.int .u8 n4) := hB3.cell 4
        have z4 : Y.cell? ⟨H, 4, none⟩ = some (.int .u8 0) := hZ2.cell 4
        have g4 : Y.frozen? ⟨H, 4, none⟩ = false := hZ2.frozen 4
        have y5 : Y.cell? ⟨H + 1, 5, none⟩ = some (.int .u8 n5) := hB3.cell 5
        have z5 : Y.cell? ⟨H, 5, none⟩ = some (.int .u8 0) := hZ2.cell 5
        have g5 : Y.frozen? ⟨H, 5, none⟩ = false := hZ2.frozen 5
        have y6 : Y.cell? ⟨H + 1, 6, none⟩ = some (.int .u8 n6) := hB3.cell 6
        have z6 : Y.cell? ⟨H, 6, none⟩ = some (.int .u8 0) := hZ2.cell 6
        have g6 : Y.frozen? ⟨H, 6, none⟩ = false := hZ2.frozen 6
        have y7 : Y.cell? ⟨H + 1, 7, none⟩ = some (Value.int .u8 1) := hB3.cell 7
        have z7 : Y.cell? ⟨H, 7, none⟩ = some (.int .u8 0) := hZ2.cell 7
        have g7 : Y.frozen? ⟨H, 7, none⟩ = false := hZ2.frozen 7
        have HB3 : Hid _ := hB3
        have HZ2 : Hid _ := hZ2
        have HB2 : Hid _ := hb2
        clear hB3 hZ2 hb2
        go_wp2_with fail
        refine bodyPost_ret (results_cell_row (ty := 96) (p := 6) rfl _ _ H 96 #[.int .u8 n0, .int .u8 n1, .int .u8 n2, .int .u8 n3, .int .u8 n4, .int .u8 n5, .int .u8 n6, .int .u8 1] (0, 0) _ rfl (show Blk _ H _ 96 from ((((((((Blk.set HZ2.out 0 _).set 1 _).set 2 _).set 3 _).set 4 _).set 5 _).set 6 _).set 7 _)) Try.underlying96 rfl (by kernel_rfl)) rfl ?_
        refine ⟨by rw [E2.out], ?_⟩
        rw [← HH.out]
        exact below_set (below_set (below_set (below_set (below_set (below_set (below_set (below_set HB2.out _ _) _ _) _ _) _ _) _ _) _ _) _ _) _ _
end Go.Proofs.Ytcnokgphioigoaa
