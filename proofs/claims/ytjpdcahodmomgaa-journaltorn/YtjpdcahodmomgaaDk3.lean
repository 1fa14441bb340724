import Derived.Test.YtjpdcahodmomgaaDk2
import Derived.Laws.MakeOwn
namespace Go.Proofs.Ytjpdcahodmomgaa
open Go.RowKit Go.PlainAid
set_option linter.unusedVariables false
set_option linter.unusedSimpArgs false
theorem made_at (z : Array Value) (v : Value) (n : Nat) (hz : 0 < z.size) (h : ∀ j, j < z.size → z[j]! = v) (j : Nat) (hj : j < n) : (madeCells z n)[j]? = some v := by
  unfold madeCells
  rw [Array.getElem?_map, Array.getElem?_range, if_pos hj]
  simp only [Option.map_some]
  rw [h _ (Nat.mod_lt _ hz)]
theorem mk_bytes (n : Nat) (hn : n ≤ 281474976710656) (w : World) : ∃ R, (Instr.makeSlice 38 (.int .i64 (n : Int)) (.int .i64 (n : Int))).run Try.prog w = .ok (.slice (some ⟨w.heap.size, 0, none⟩) n n) (w.alloc (.cells R 5)) ∧ R.size = n ∧ ∀ j, j < n → R[j]? = some (B 0) := by
  obtain ⟨i0, hi, hz, hs, hb⟩ := info_parts info5'
  have h := run_make (P := Try.prog) w 38 5 i0 _ Try.underlying38 hi hz .i64 .i64 (n : Int) (n : Int) (by omega) (Int.le_refl _) (by rw [hb]; omega) (by omega)
  rw [Int.toNat_natCast, hs, Nat.mul_one] at h
  refine ⟨_, h, size_madeCells _ _, fun j hj => ?_⟩
  refine made_at _ _ n (by decide) (fun j hj => ?_) j hj
  obtain rfl : j = 0 := by simp [Value.cells] at hj; omega
  rfl
theorem mk_ints (n : Nat) (hn : n ≤ 1000) (w : World) : ∃ R, (Instr.makeSlice 24 (.int .i64 (n : Int)) (.int .i64 (n : Int))).run Try.prog w = .ok (.slice (some ⟨w.heap.size, 0, none⟩) n n) (w.alloc (.cells R 3)) ∧ R.size = n ∧ ∀ j, j < n → R[j]? = some (.int .i64 0) := by
  obtain ⟨i0, hi, hz, hs, hb⟩ := info_parts info3
  have h := run_make (P := Try.prog) w 24 3 i0 _ Try.underlying24 hi hz .i64 .i64 (n : Int) (n : Int) (by omega) (Int.le_refl _) (by rw [hb]; omega) (by omega)
  rw [Int.toNat_natCast, hs, Nat.mul_one] at h
  refine ⟨_, h, size_madeCells _ _, fun j hj => ?_⟩
  refine made_at _ _ n (by decide) (fun j hj => ?_) j hj
  obtain rfl : j = 0 := by simp [Value.cells] at hj; omega
  rfl
def z77 : Value := .agg (Array.replicate 512 (.int .u8 0))
set_option maxRecDepth 100000 in
theorem info77 : (Try.prog.info? 89).map (fun i => (i.zero, i.size, i.bytes)) = some (some z77, 512, 512) := by kernel_rfl
set_option maxRecDepth 100000 in
theorem z77_size : z77.cells.size = 512 := by kernel_rfl
set_option maxRecDepth 100000 in
theorem z77_all : z77.cells.toList = List.replicate 512 (.int .u8 0) := by kernel_rfl
theorem mk_secs (n : Nat) (hn : n ≤ 65536) (w : World) : ∃ R, (Instr.makeSlice 73 (.int .i64 (n : Int)) (.int .i64 (n : Int))).run Try.prog w = .ok (.slice (some ⟨w.heap.size, 0, none⟩) n n) (w.alloc (.cells R 89)) ∧ SBox n (fun _ => 0) R := by
  obtain ⟨i0, hi, hz, hs, hb⟩ := info_parts info77
  have h := run_make (P := Try.prog) w 73 89 i0 _ Try.underlying73 hi hz .i64 .i64 (n : Int) (n : Int) (by omega) (Int.le_refl _) (by rw [hb]; omega) (by omega)
  rw [Int.toNat_natCast, hs] at h
  refine ⟨_, h, ⟨by rw [size_madeCells]; omega, fun j hj => ?_⟩⟩
  refine made_at _ _ _ (by rw [z77_size]; omega) (fun j hj => ?_) j (by omega)
  rw [z77_size] at hj
  have hl : z77.cells[j]? = some (.int .u8 0) := by
    rw [← Array.getElem?_toList, z77_all, List.getElem?_replicate, if_pos hj]
  rw [getElem!_def, hl]
  rfl
def fresh (n : Nat) : DV := ⟨n, fun _ => 0, false, false, 0, 0, 0, fun _ => 0⟩
set_option maxRecDepth 100000 in
theorem new_no (i : Int) (w : World) (h : i < 1 ∨ 65536 < i) : Calls Try.prog 13 #[.int .i64 i] w fun e w' => e = .returned (.tuple #[.pointer none, .int .i64 1]) ∧ w' = w := by
  by_cases h1 : i < 1
  · go_enter Try.func13, Try.ntmps13
    go_wp2_with fail
    go_ret2
    exact ⟨rfl, rfl⟩
  · have h2 : 65536 < i := by omega
    go_enter Try.func13, Try.ntmps13
    go_wp2_with fail
    go_ret2
    exact ⟨rfl, rfl⟩
def Z73 : Array Value := #[.slice none 0 0, .bool false, .bool false, .int .i64 0, .int .i64 0, .int .i64 0] ++ Array.replicate 64 (.int .i64 0)
set_option maxRecDepth 100000 in
theorem zero73 (w : World) : (zeroValue 78).run Try.prog w = .ok (.agg Z73) w := by kernel_rfl
theorem fresh_box (n s : Nat) : DBox (fresh n) s (Z73.setIfInBounds 0 (.slice (some ⟨s, 0, none⟩) n n)) := by
  refine ⟨rfl, rfl, rfl, rfl, rfl, rfl, rfl, fun j hj => ?_⟩
  rw [Array.getElem?_setIfInBounds_ne (by omega)]
  unfold Z73
  rw [Array.getElem?_append_right (by simp), Array.getElem?_replicate, if_pos (by simp; omega)]
  rfl
set_option maxRecDepth 100000 in
set_option maxHeartbeats 1600000 in
theorem new_yes (n : Nat) (w : World) (hn : 1 ≤ n ∧ n ≤ 65536) : Calls Try.prog 13 #[.int .i64 (n : Int)] w fun e w' => e = .returned (.tuple #[.pointer (some ⟨w.heap.size + 1, 0, none⟩), .int .i64 0]) ∧ DM w.heap.size (w.heap.size + 1) w.heap.size (fresh n) w' ∧ Below w.heap.size w w' := by
  obtain ⟨h1, h2⟩ := hn
  obtain ⟨R, hmk, hR⟩ := mk_secs n h2 w
  have HR : Hid (SBox n (fun _ => 0) R) := hR
  obtain ⟨Z, hZ⟩ : ∃ Z, Z = Z73 := ⟨_, rfl⟩
  have hz : ∀ w, (zeroValue 78).run Try.prog w = .ok (.agg Z) w := fun w => by rw [hZ]; exact zero73 w
  have hzn : ¬ (Z = #[]) := by rw [hZ]; simp [Z73]
  have HZ : Hid (Z = Z73) := hZ
  clear hR hZ
  go_enter Try.func13, Try.ntmps13
  go_wp2_with fail
  go_ret2
  have hb1 : Below w.heap.size w (w.alloc (.cells R 89)) := (Below.refl _ _).alloc (Nat.le_refl _) _
  have hnw := heap_alloc_new (w.alloc (.cells R 89)) (.cells (Z.setIfInBounds 0 (.slice (some ⟨w.heap.size, 0, none⟩) n n)) 78)
  rw [World.size_alloc] at hnw
  refine ⟨rfl, ⟨⟨Z.setIfInBounds 0 (.slice (some ⟨w.heap.size, 0, none⟩) n n), hnw, by rw [HZ.out]; exact fresh_box n _⟩, ⟨R, ?_, HR.out⟩, ⟨by omega, by omega⟩, h1, h2⟩, hb1.alloc hb1.size _⟩
  exact (Below.heap_alloc _ _ _ (by simp)).trans (heap_alloc_new w (.cells R 89))
/-- A sector's bytes. -/
def secL (b : Nat → UInt8) (i : Nat) : List UInt8 := (List.range 512).map fun j => b (i * 512 + j)
theorem secL_len (b : Nat → UInt8) (i : Nat) : (secL b i).length = 512 := by rw [secL, List.length_map, List.length_range]
theorem secL_get (b : Nat → UInt8) (i j : Nat) (h : j < 512) : (secL b i)[j]? = some (b (i * 512 + j)) := by rw [secL, List.getElem?_map, List.getElem?_range h]; rfl
theorem DM.bySec {L p s : Nat} {x : DV} {w : World} (h : DM L p s x w) (i : Nat) (hi : i < x.n) : By w (.slice (some ⟨s, i * 512, none⟩) 512 512) (secL x.b i) := by
  obtain ⟨R, h1, h2⟩ := h.sec
  refine ⟨_, _, _, rfl, secL_len _ _, (fun e => by cases e), fun ad e j u hu => ?_⟩
  cases e
  have hj : j < 512 := by
    have := (List.getElem?_eq_some_iff.1 hu).1
    rw [List.length_map, secL_len] at this
    exact this
  rw [List.getElem?_map, secL_get _ _ _ hj] at hu
  cases hu
  rw [addr_add, h1.cell]
  exact h2.at' _ (by omega)
/-- A row of bytes that is all one's own. -/
theorem own_blk {w : World} {L g n : Nat} {cur : Array Value} {bs : List UInt8} (h : Blk w g cur 5) (hL : L ≤ g) (hn : cur.size = n) (hm : n ≤ maxLen) (hb : ∀ j, j < n → cur[j]? = some (B (bs.getD j 0))) (hl : bs.length = n) : w.ownsRow L 5 1 (.slice (some ⟨g, 0, none⟩) n n) n (bs.map B) := by
  refine ⟨by simp [hl], Or.inr ⟨g, n, cur, rfl, hL, h, Nat.le_refl _, hm, by omega, ?_⟩⟩
  rw [Nat.mul_one, List.take_of_length_le (by simp [hn])]
  apply List.ext_getElem?
  intro j
  rw [Array.getElem?_toList, List.getElem?_map]
  by_cases hj : j < n
  · rw [hb j hj, List.getD_eq_getElem?_getD, List.getElem?_eq_getElem (by omega)]
    rfl
  · rw [Array.getElem?_eq_none (by omega), List.getElem?_eq_none (by omega)]
    rfl
section
variable {L p s : Nat} {x : DV}
set_option maxRecDepth 100000 in
set_option maxHeartbeats 800000 in
theorem read_no (i : Int) (w : World) (h : DM L p s x w) (hr : reachE x i ≠ 0) : Calls Try.prog 33 #[.pointer (some ⟨p, 0, none⟩), .int .i64 i] w fun e w' => e = .returned (.tuple #[.slice none 0 0, .int .i64 (reachE x i)]) ∧ w' = w := by
  have HR : Hid _ := reach_any i w h
  obtain ⟨e0, he0⟩ : ∃ e0, e0 = reachE x i := ⟨_, rfl⟩
  rw [← he0] at hr HR ⊢
  have hrb : (e0 == 0) = false := by simpa using hr
  have hrc : (e0 != 0) = true := by simpa using hr
  clear h he0
  go_enter Try.func33, Try.ntmps33
  go_wp2_with fail
  refine Calls.mono HR.out ?_
  rintro e w1 ⟨rfl, hw1⟩
  replace hw1 := hw1.symm
  subst hw1
  clear HR
  go_wp2_with fail
  go_ret2
  exact ⟨rfl, rfl⟩
set_option maxRecDepth 100000 in
set_option maxHeartbeats 1600000 in
theorem read_yes (i : Nat) (w : World) (h : DM L p s x w) (ho : x.off = false) (hi : i < x.n) : Calls Try.prog 33 #[.pointer (some ⟨p, 0, none⟩), .int .i64 (i : Int)] w fun e w' => ∃ v', e = .returned (.tuple #[v', .int .i64 0]) ∧ w'.ownsRow w.heap.size 5 1 v' 512 ((secL x.b i).map B) ∧ Below w.heap.size w w' := by
  have hr0 : reachE x i = 0 := by unfold reachE; rw [if_neg (by simp [ho]), if_neg (by omega)]
  have hr := reach_any (i : Int) w h
  rw [hr0] at hr
  have HR : Hid _ := hr
  obtain ⟨R, hmk, hRs, hRa⟩ := mk_bytes 512 (by omega) w
  have hal : Below w.heap.size w (w.alloc (.cells R 5)) := (Below.refl _ _).alloc (Nat.le_refl _) _
  have h1 := h.more hal
  have hBR : Blk (w.alloc (.cells R 5)) w.heap.size R 5 := heap_alloc_new w _
  obtain ⟨w2, hcp, ⟨cur, hcb, hcs, hca⟩, hch⟩ := copy_by (o := 0) (dLen := 512) (dCap := 512) hBR (h1.bySec i hi) (by rw [secL_len]; omega)
  rw [secL_len] at hcp hca
  have hown : w2.ownsRow w.heap.size 5 1 (.slice (some ⟨w.heap.size, 0, none⟩) 512 512) 512 ((secL x.b i).map B) := own_blk hcb (Nat.le_refl _) (by omega) (by unfold maxLen; omega) (fun j hj => by rw [hca j, if_pos (by omega)]; rfl) (secL_len _ _)
  have HF : Hid (w2.ownsRow w.heap.size 5 1 (.slice (some ⟨w.heap.size, 0, none⟩) 512 512) 512 ((secL x.b i).map B) ∧ Below w.heap.size w w2) := ⟨hown, hal.trans (hch.below hal.size (fun k e => by omega))⟩
  have c0 := h1.k0
  have hcp' : (Builtin.copy_ #[38, 38] 3 #[.slice (some ⟨w.heap.size, 0, none⟩) 512 512, .slice (some ⟨s, i * 512, none⟩) 512 512]).run Try.prog (w.alloc (.cells R 5)) = .ok (.int .i64 512) w2 := hcp
  have hmk' : (Instr.makeSlice 38 (.int .i64 512) (.int .i64 512)).run Try.prog w = .ok (.slice (some ⟨w.heap.size, 0, none⟩) 512 512) (w.alloc (.cells R 5)) := hmk
  clear h h1 hr hr0 hmk hRs hRa hal hBR hcb hcs hca hch hown hcp
  go_enter Try.func33, Try.ntmps33
  go_wp2_with fail
  refine Calls.mono HR.out ?_
  rintro e w1 ⟨rfl, hw1⟩
  replace hw1 := hw1.symm
  subst hw1
  clear HR
  go_wp2_with fail
  go_ret2
  exact ⟨_, rfl, HF.out.1, HF.out.2⟩
set_option maxRecDepth 100000 in
set_option maxHeartbeats 800000 in
theorem write_no (i : Int) {v : Value} (w : World) (h : DM L p s x w) (hr : reachE x i ≠ 0) : Calls Try.prog 59 #[.pointer (some ⟨p, 0, none⟩), .int .i64 i, v] w fun e w' => e = .returned (.int .i64 (reachE x i)) ∧ w' = w := by
  have HR : Hid _ := reach_any i w h
  obtain ⟨e0, he0⟩ : ∃ e0, e0 = reachE x i := ⟨_, rfl⟩
  rw [← he0] at hr HR ⊢
  have hrb : (e0 == 0) = false := by simpa using hr
  have hrc : (e0 != 0) = true := by simpa using hr
  clear h he0
  go_enter Try.func59, Try.ntmps59
  go_wp2_with fail
  refine Calls.mono HR.out ?_
  rintro e w1 ⟨rfl, hw1⟩
  replace hw1 := hw1.symm
  subst hw1
  clear HR
  go_wp2_with fail
  go_ret
  exact ⟨rfl, rfl⟩
set_option maxRecDepth 100000 in
set_option maxHeartbeats 800000 in
theorem write_arg (i : Nat) {ao : Option Addr} {k c : Nat} (w : World) (h : DM L p s x w) (ho : x.off = false) (hi : i < x.n) (hk : k ≠ 512) : Calls Try.prog 59 #[.pointer (some ⟨p, 0, none⟩), .int .i64 (i : Int), .slice ao k c] w fun e w' => e = .returned (.int .i64 1) ∧ w' = w := by
  have hr0 : reachE x i = 0 := by unfold reachE; rw [if_neg (by simp [ho]), if_neg (by omega)]
  have hr := reach_any (i : Int) w h
  rw [hr0] at hr
  have HR : Hid _ := hr
  have hk1 : ((k : Int) == 512) = false := by simp; omega
  have hk2 : ((k : Int) != 512) = true := by simp; omega
  have hk3 : ¬ ((k : Int) = 512) := by omega
  clear h hr hr0
  go_enter Try.func59, Try.ntmps59
  go_wp2_with fail
  refine Calls.mono HR.out ?_
  rintro e w1 ⟨rfl, hw1⟩
  replace hw1 := hw1.symm
  subst hw1
  clear HR
  go_wp2_with fail
  go_ret
  exact ⟨rfl, rfl⟩
def DV.put (x : DV) (i m : Nat) (bs : List UInt8) : DV := { x with b := fun k => if i * 512 ≤ k ∧ k < i * 512 + m then bs.getD (k - i * 512) 0 else x.b k }
theorem len77 : Try.prog.arrayLen 89 = 512 := by kernel_rfl
theorem elem77 : Try.prog.elem 89 = 5 := by kernel_rfl
theorem slice77 (g o m : Nat) (hm : m ≤ 512) (w : World) : (Instr.sliceAt 89 (.pointer (some ⟨g, o, none⟩)) none (some (.int .i64 (m : Int))) none).run Try.prog w = .ok (.slice (some ⟨g, o, none⟩) m 512) w := by
  have hs : (sizeOf 5).run Try.prog w = .ok 1 w := by kernel_rfl
  rw [run_sliceAt_array_h w 89 _ (by rw [len77, elem77]; exact Try.underlying89) .i64 (m : Int) (by omega) (by rw [len77]; omega), elem77, hs, len77]
  simp [Result.andThen, slicedAt, Addr.add]
/-- A sector is written. -/
theorem DM.copied {w w' : World} (h : DM L p s x w) {i m : Nat} {bs : List UInt8} (hm : m ≤ 512) (hi : i < x.n) {R : Array Value} (hR : Blk w s R 89) (hS : SBox x.n x.b R) (hc : ∃ cur', Blk w' s cur' 89 ∧ cur'.size = R.size ∧ ∀ j, cur'[j]? = if i * 512 ≤ j ∧ j < i * 512 + m then some (B (bs.getD (j - i * 512) 0)) else R[j]?) (hch : Chg (fun k => k = s) w w') : DM L p s (x.put i m bs) w' := by
  obtain ⟨C, h1, h2⟩ := h.box
  obtain ⟨cur, hb, hs, ha⟩ := hc
  refine ⟨⟨C, hch.blk h1 h.ne, ⟨h2.size, h2.c0, h2.c1, h2.c2, h2.c3, h2.c4, h2.c5, h2.ct⟩⟩, ⟨cur, hb, hs.trans hS.size, fun k hk => ?_⟩, h.lo, h.nb⟩
  rw [ha k]
  unfold DV.put
  simp only
  split
  · rfl
  · exact hS.at' k hk
set_option maxRecDepth 100000 in
set_option maxHeartbeats 3200000 in
theorem write_torn (i : Nat) {v : Value} {bs : List UInt8} (w : World) (h : DM L p s x w) (ho : x.off = false) (hi : i < x.n) (hl : bs.length = 512) (hb : By w v bs) (hv : ∀ ad k c, v = .slice (some ad) k c → ad.block ≠ p) (ha : x.armed = true) (hwh : x.whole = 0) (ht : x.torn ≤ 512) (hw : x.writes ≤ 1000000000000000000) :
    Calls Try.prog 59 #[.pointer (some ⟨p, 0, none⟩), .int .i64 (i : Int), v] w fun e w' => e = .returned (.int .i64 200) ∧ DM L p s ((x.noted i).put i x.torn bs).offed w' ∧ Chg (down p s) w w' := by
  have hr0 : reachE x i = 0 := by unfold reachE; rw [if_neg (by simp [ho]), if_neg (by omega)]
  have hr := reach_any (i : Int) w h
  rw [hr0] at hr
  have HR : Hid _ := hr
  have HNT : Hid _ := note_any i w h hw
  obtain ⟨ao, k, c, hvv, hvl, _⟩ := id hb
  rw [hl] at hvl
  subst hvl
  have HBY : Hid (By w v bs) := hb
  have HBV : Hid _ := hv
  have HN : Hid (p ≠ s) := h.ne
  subst hvv
  clear h hr hr0 hb hv
  go_enter Try.func59, Try.ntmps59
  go_wp2_with fail
  refine Calls.mono HR.out ?_
  rintro e w1 ⟨rfl, hw1⟩
  replace hw1 := hw1.symm
  subst hw1
  clear HR
  go_wp2_with fail
  refine Calls.mono HNT.out ?_
  rintro e w1 ⟨rfl, h1, hc1⟩
  clear HNT
  have h1d : DM L p s (x.noted i) w1.drew := h1.drew 1
  have hc1d : Chg (fun k => k = p) w w1.drew := hc1.drewN 1
  obtain ⟨R, hRb, hRs⟩ := h1d.sec
  have hby1 : By w1.drew (.slice ao 512 c) bs := HBY.out.chg hc1d HBV.out
  obtain ⟨w2, hcp, hcc, hch⟩ := copy_by (o := i * 512) (dLen := x.torn) (dCap := 512) hRb hby1 (by rw [hRs.size]; show _ ≤ 512 * x.n; omega)
  have hmn : min bs.length x.torn = x.torn := by omega
  rw [hmn] at hcp hcc
  have h2 := h1d.copied (bs := bs) ht hi hRb hRs hcc hch
  have HOF : Hid _ := off_any w2 h2
  have k0 : w1.cell? ⟨p, 0, none⟩ = some (.slice (some ⟨s, 0, none⟩) x.n x.n) := h1.k0
  have k2 : w1.cell? ⟨p, 2, none⟩ = some (.bool true) := by rw [h1.k2]; show some (Value.bool x.armed) = _; rw [ha]
  have k3 : w1.cell? ⟨p, 3, none⟩ = some (.int .i64 0) := by rw [h1.k3]; show some (Value.int .i64 (x.whole : Int)) = _; rw [hwh]; rfl
  have k4 : w1.cell? ⟨p, 4, none⟩ = some (.int .i64 (x.torn : Int)) := h1.k4
  have hii : (i : Int) < (x.n : Int) := by omega
  have hsl := slice77 s (i * 512) x.torn ht w1.drew
  have HC : Hid (Chg (down p s) w w2) := (hc1d.mono (B := down p s) (fun j _ e => Or.inl e)).trans hch (fun j _ e => Or.inr e)
  clear h1 hc1 h1d hc1d hby1 hcc hch h2 hRb hRs hmn
  go_wp2_with fail
  go_region
  go_wp2_with fail
  refine Calls.mono HOF.out ?_
  rintro e w3 ⟨rfl, h3, hc3⟩
  clear HOF
  have HF : Hid (DM L p s ((x.noted i).put i x.torn bs).offed w3 ∧ Chg (down p s) w w3) := ⟨h3, HC.out.trans hc3 (fun j _ e => Or.inl e)⟩
  clear h3 hc3
  go_wp2_with fail
  go_ret
  exact ⟨rfl, HF.out.1, HF.out.2⟩
def DV.dec (x : DV) : DV := if x.armed = true then { x with whole := x.whole - 1 } else x
set_option maxRecDepth 100000 in
set_option maxHeartbeats 3200000 in
theorem write_whole (i : Nat) {v : Value} {bs : List UInt8} (w : World) (h : DM L p s x w) (ho : x.off = false) (hi : i < x.n) (hl : bs.length = 512) (hb : By w v bs) (hv : ∀ ad k c, v = .slice (some ad) k c → ad.block ≠ p) (ha : x.armed = true → 1 ≤ x.whole) (hwb : x.whole ≤ 9223372036854775807) (hw : x.writes ≤ 1000000000000000000) :
    Calls Try.prog 59 #[.pointer (some ⟨p, 0, none⟩), .int .i64 (i : Int), v] w fun e w' => e = .returned (.int .i64 0) ∧ DM L p s ((x.noted i).dec.put i 512 bs) w' ∧ Chg (down p s) w w' := by
  have hr0 : reachE x i = 0 := by unfold reachE; rw [if_neg (by simp [ho]), if_neg (by omega)]
  have hr := reach_any (i : Int) w h
  rw [hr0] at hr
  have HR : Hid _ := hr
  have HNT : Hid _ := note_any i w h hw
  obtain ⟨ao, k, c, hvv, hvl, _⟩ := id hb
  rw [hl] at hvl
  subst hvl
  have HBY : Hid (By w v bs) := hb
  have HBV : Hid _ := hv
  have HN : Hid (p ≠ s) := h.ne
  subst hvv
  clear h hr hr0 hb hv
  cases har : x.armed with
  | false =>
    go_enter Try.func59, Try.ntmps59
    go_wp2_with fail
    refine Calls.mono HR.out ?_
    rintro e w1 ⟨rfl, hw1⟩
    replace hw1 := hw1.symm
    subst hw1
    clear HR
    go_wp2_with fail
    refine Calls.mono HNT.out ?_
    rintro e w1 ⟨rfl, h1, hc1⟩
    clear HNT
    have hd : (x.noted i).dec = x.noted i := by unfold DV.dec; rw [if_neg (by show ¬ x.armed = true; rw [har]; simp)]
    obtain ⟨R, hRb, hRs⟩ := h1.sec
    have hby1 : By w1 (.slice ao 512 c) bs := HBY.out.chg hc1 HBV.out
    obtain ⟨w2, hcp, hcc, hch⟩ := copy_by (o := i * 512) (dLen := 512) (dCap := 512) hRb hby1 (by rw [hRs.size]; show _ ≤ 512 * x.n; omega)
    have hmn : min bs.length 512 = 512 := by omega
    rw [hmn] at hcp hcc
    have h2 := h1.copied (bs := bs) (Nat.le_refl _) hi hRb hRs hcc hch
    rw [← hd] at h2
    have k0 : w1.cell? ⟨p, 0, none⟩ = some (.slice (some ⟨s, 0, none⟩) x.n x.n) := h1.k0
    have k2 : w1.cell? ⟨p, 2, none⟩ = some (.bool false) := by rw [h1.k2]; show some (Value.bool x.armed) = _; rw [har]
    have HF : Hid (DM L p s ((x.noted i).dec.put i 512 bs) w2 ∧ Chg (down p s) w w2) := ⟨h2, (hc1.mono (B := down p s) (fun j _ e => Or.inl e)).trans hch (fun j _ e => Or.inr e)⟩
    clear h1 hc1 hby1 hcc hch h2 hRb hRs hmn hd ha
    go_wp2_with fail
    go_ret
    exact ⟨rfl, HF.out.1, HF.out.2⟩
  | true =>
    have ha1 := ha har
    have hnz : ((x.whole : Int) == 0) = false := by simp; omega
    have hnz2 : ¬ ((x.whole : Int) = 0) := by omega
    go_enter Try.func59, Try.ntmps59
    go_wp2_with fail
    refine Calls.mono HR.out ?_
    rintro e w1 ⟨rfl, hw1⟩
    replace hw1 := hw1.symm
    subst hw1
    clear HR
    go_wp2_with fail
    refine Calls.mono HNT.out ?_
    rintro e w1 ⟨rfl, h1, hc1⟩
    clear HNT
    have hd : (x.noted i).dec = { x.noted i with whole := x.whole - 1 } := by unfold DV.dec; rw [if_pos (by show x.armed = true; exact har)]; rfl
    have h1b : DM L p s { x.noted i with whole := x.whole - 1 } (w1.setCell ⟨p, 3, none⟩ (.int .i64 ((x.whole - 1 : Nat) : Int))) := h1.setBox 3 _ rfl rfl fun C hC => hC.setWhole (x.whole - 1)
    have hcb := setCell_chg w1 p 3 (.int .i64 ((x.whole - 1 : Nat) : Int))
    rw [show ((x.whole - 1 : Nat) : Int) = (x.whole : Int) - 1 by omega] at h1b hcb
    obtain ⟨R, hRb, hRs⟩ := h1b.sec
    have hby1 : By (w1.setCell ⟨p, 3, none⟩ (.int .i64 ((x.whole : Int) - 1))) (.slice ao 512 c) bs := HBY.out.chg (hc1.trans hcb (fun _ _ e => e)) HBV.out
    obtain ⟨w2, hcp, hcc, hch⟩ := copy_by (o := i * 512) (dLen := 512) (dCap := 512) hRb hby1 (by rw [hRs.size]; show _ ≤ 512 * x.n; omega)
    have hmn : min bs.length 512 = 512 := by omega
    rw [hmn] at hcp hcc
    have h2 := h1b.copied (bs := bs) (Nat.le_refl _) hi hRb hRs hcc hch
    rw [← hd] at h2
    have k0 : w1.cell? ⟨p, 0, none⟩ = some (.slice (some ⟨s, 0, none⟩) x.n x.n) := h1.k0
    have k2 : w1.cell? ⟨p, 2, none⟩ = some (.bool true) := by rw [h1.k2]; show some (Value.bool x.armed) = _; rw [har]
    have k3 : w1.cell? ⟨p, 3, none⟩ = some (.int .i64 (x.whole : Int)) := h1.k3
    have f3 : w1.frozen? ⟨p, 3, none⟩ = false := h1.fz 3
    have HF : Hid (DM L p s ((x.noted i).dec.put i 512 bs) w2 ∧ Chg (down p s) w w2) := ⟨h2, ((hc1.trans hcb (fun _ _ e => e)).mono (B := down p s) (fun j _ e => Or.inl e)).trans hch (fun j _ e => Or.inr e)⟩
    clear h1 hc1 h1b hcb hby1 hcc hch h2 hRb hRs hmn hd ha
    go_wp2_with fail
    go_ret
    exact ⟨rfl, HF.out.1, HF.out.2⟩
def tornN (t : Int) : Nat := (min (max t 0) 512).toNat
def DV.arm (x : DV) (after torn : Int) : DV := if after < 0 then { x with armed := false, whole := 0, torn := 0 } else { x with armed := true, whole := after.toNat, torn := tornN torn }
set_option maxRecDepth 100000 in
theorem arm_off (a t : Int) (w : World) (h : DM L p s x w) (ho : x.off = true) : Calls Try.prog 22 #[.pointer (some ⟨p, 0, none⟩), .int .i64 a, .int .i64 t] w fun e w' => e = .returned (.tuple #[]) ∧ w' = w := by
  have k1 := h.k1
  rw [ho] at k1
  clear h
  go_enter Try.func22, Try.ntmps22
  go_wp2_with fail
  refine bodyPost_ret (results_none rfl _ _ _) rfl ?_
  exact ⟨rfl, rfl⟩
theorem DM.fuse {w : World} (h : DM L p s x w) (a : Bool) (m t : Nat) : DM L p s { x with armed := a, whole := m, torn := t } (((w.setCell ⟨p, 2, none⟩ (.bool a)).setCell ⟨p, 3, none⟩ (.int .i64 (m : Int))).setCell ⟨p, 4, none⟩ (.int .i64 (t : Int))) ∧ Chg (fun k => k = p) w (((w.setCell ⟨p, 2, none⟩ (.bool a)).setCell ⟨p, 3, none⟩ (.int .i64 (m : Int))).setCell ⟨p, 4, none⟩ (.int .i64 (t : Int))) := by
  have h2 := h.setBox (y := { x with armed := a }) 2 (.bool a) rfl rfl fun C hC => hC.setArmed a
  have h3 := h2.setBox (y := { x with armed := a, whole := m }) 3 (.int .i64 (m : Int)) rfl rfl fun C hC => hC.setWhole m
  have h4 := h3.setBox (y := { x with armed := a, whole := m, torn := t }) 4 (.int .i64 (t : Int)) rfl rfl fun C hC => hC.setTorn t
  exact ⟨h4, (((Chg.refl _ w).trans (setCell_chg _ _ _ _) (fun _ _ e => e)).trans (setCell_chg _ _ _ _) (fun _ _ e => e)).trans (setCell_chg _ _ _ _) (fun _ _ e => e)⟩
set_option maxRecDepth 100000 in
set_option maxHeartbeats 1600000 in
theorem arm_on (a t : Int) (w : World) (h : DM L p s x w) (ho : x.off = false) (hab : a ≤ 9223372036854775807) : Calls Try.prog 22 #[.pointer (some ⟨p, 0, none⟩), .int .i64 a, .int .i64 t] w fun e w' => e = .returned (.tuple #[]) ∧ DM L p s (x.arm a t) w' ∧ Chg (fun k => k = p) w w' := by
  have k1 := h.k1
  have k2 := h.k2
  have k3 := h.k3
  have k4 := h.k4
  have f2 := h.fz 2
  have f3 := h.fz 3
  have f4 := h.fz 4
  rw [ho] at k1
  obtain ⟨h1, hc1⟩ := h.fuse false 0 0
  by_cases ha : a < 0
  · have hax : x.arm a t = { x with armed := false, whole := 0, torn := 0 } := by unfold DV.arm; rw [if_pos ha]
    rw [← hax] at h1
    have HF : Hid _ := And.intro h1 hc1
    clear h h1 hc1 hax
    go_enter Try.func22, Try.ntmps22
    go_wp2_with fail
    refine bodyPost_end (results_none rfl _ _ _) rfl ?_
    exact ⟨rfl, HF.out.1, HF.out.2⟩
  · obtain ⟨h2, hc2⟩ := h1.fuse true a.toNat (tornN t)
    have hax : x.arm a t = { x with armed := true, whole := a.toNat, torn := tornN t } := by unfold DV.arm; rw [if_neg ha]
    have e1 : (a.toNat : Int) = a := by omega
    rw [e1] at h2 hc2
    have HX : Hid _ := hax
    have hc3 := hc1.trans hc2 (fun _ _ e => e)
    clear h h1 hc1 hc2 e1 hax
    by_cases t0 : t < 0
    · have e2 : (tornN t : Int) = 0 := by unfold tornN; omega
      rw [e2] at h2 hc3
      have HF : Hid _ := And.intro h2 hc3
      clear h2 hc3 e2
      go_enter Try.func22, Try.ntmps22
      go_wp2_with fail
      all_goals (first | omega | (refine bodyPost_end (results_none rfl _ _ _) rfl ?_; rw [HX.out]; exact ⟨rfl, HF.out.1, HF.out.2⟩))
    · by_cases t1 : t ≤ 512
      · have e2 : (tornN t : Int) = t := by unfold tornN; omega
        rw [e2] at h2 hc3
        have HF : Hid _ := And.intro h2 hc3
        clear h2 hc3 e2
        go_enter Try.func22, Try.ntmps22
        go_wp2_with fail
        all_goals (first | omega | (refine bodyPost_end (results_none rfl _ _ _) rfl ?_; rw [HX.out]; exact ⟨rfl, HF.out.1, HF.out.2⟩))
      · have e2 : (tornN t : Int) = 512 := by unfold tornN; omega
        rw [e2] at h2 hc3
        have HF : Hid _ := And.intro h2 hc3
        clear h2 hc3 e2
        go_enter Try.func22, Try.ntmps22
        go_wp2_with fail
        all_goals (first | omega | (refine bodyPost_end (results_none rfl _ _ _) rfl ?_; rw [HX.out]; exact ⟨rfl, HF.out.1, HF.out.2⟩))
end
end Go.Proofs.Ytjpdcahodmomgaa
