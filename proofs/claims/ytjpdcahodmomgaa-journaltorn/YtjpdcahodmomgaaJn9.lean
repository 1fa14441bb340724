import Derived.Test.YtjpdcahodmomgaaJn8
import Derived.BigQuiet
import Derived.ChangeKeysEq
namespace Go.Proofs.Ytjpdcahodmomgaa
open Go.RowKit Go.PlainAid
set_option linter.unusedVariables false
set_option linter.unusedSimpArgs false
theorem or_len (a b : Nat) (ha : a < 2 ^ 8) (hb : b < 2 ^ 8) : bits .or .i64 (a : Int) ((b : Int) * 256) = ((a + 256 * b : Nat) : Int) := by
  have e1 : (BitVec.ofInt 64 (a : Int)).toNat = a := by rw [BitVec.toNat_ofInt]; omega
  have e2 : (BitVec.ofInt 64 ((b : Int) * 256)).toNat = b * 2 ^ 8 := by rw [BitVec.toNat_ofInt]; omega
  have key : (BitVec.ofInt 64 (a : Int) ||| BitVec.ofInt 64 ((b : Int) * 256)).toNat = a + 256 * b := by
    rw [BitVec.toNat_or, e1, e2, Nat.or_comm, ← Nat.shiftLeft_eq, ← Nat.shiftLeft_add_eq_or_of_lt ha, Nat.shiftLeft_eq]
    omega
  show IntKind.i64.wrap ((BitVec.ofInt 64 (a : Int) ||| BitVec.ofInt 64 ((b : Int) * 256)).toNat : Nat) = _
  rw [key, IntKind.wrap_i64]
  omega
set_option maxRecDepth 100000 in
theorem lengthIn_any {L g c : Nat} {bs : List UInt8} (w : World) (h : w.ownsRow L 5 1 (.slice (some ⟨g, 0, none⟩) 512 c) 512 (bs.map B)) : Calls Try.prog 52 #[.slice (some ⟨g, 0, none⟩) 512 c] w fun e w' => e = .returned (.int .i64 (((bs.getD 5 0).toNat + 256 * (bs.getD 6 0).toNat : Nat) : Int)) ∧ ∃ q, w' = w.drewN q := by
  have hl : bs.length = 512 := by have := h.1; simpa using this
  have c5 : w.cell? ⟨g, 5, none⟩ = some (.int .u8 ((bs.getD 5 0).toNat : Int)) := by
    have := h.cells (g := g) rfl 5 (B (bs.getD 5 0)) (by rw [List.getElem?_map, List.getElem?_eq_getElem (by omega), List.getD_eq_getElem?_getD, List.getElem?_eq_getElem (by omega)]; rfl)
    rwa [addr_add, Nat.zero_add] at this
  have c6 : w.cell? ⟨g, 6, none⟩ = some (.int .u8 ((bs.getD 6 0).toNat : Int)) := by
    have := h.cells (g := g) rfl 6 (B (bs.getD 6 0)) (by rw [List.getElem?_map, List.getElem?_eq_getElem (by omega), List.getD_eq_getElem?_getD, List.getElem?_eq_getElem (by omega)]; rfl)
    rwa [addr_add, Nat.zero_add] at this
  have h5 := (bs.getD 5 0).toNat_lt
  have h6 := (bs.getD 6 0).toNat_lt
  obtain ⟨a, ha⟩ : ∃ a, a = (bs.getD 5 0).toNat := ⟨_, rfl⟩
  obtain ⟨b, hb⟩ : ∃ b, b = (bs.getD 6 0).toNat := ⟨_, rfl⟩
  rw [← ha] at c5 h5 ⊢
  rw [← hb] at c6 h6 ⊢
  clear h ha hb hl
  go_enter Try.func52, Try.ntmps52
  go_wp2_with fail
  go_quiet (fail)
  go_wp2_with fail
  go_ret
  exact ⟨ret_i64 (or_len a b h5 h6), _, rfl⟩
theorem slice_h8 (g c : Nat) (hc : 512 ≤ c) (w : World) : (Instr.sliceAt 38 (.slice (some ⟨g, 0, none⟩) 512 c) none (some (.int .i64 8)) none).run Try.prog w = .ok (.slice (some ⟨g, 0, none⟩) 8 c) w := by
  have hs : (sizeOf 5).run Try.prog w = .ok 1 w := by kernel_rfl
  have he : Try.prog.elem 38 = 5 := by kernel_rfl
  have hu2 : Try.prog.underlying 38 = some (.slice (Try.prog.elem 38)) := by rw [he]; exact Try.underlying38
  rw [run_sliceAt_slice _ _ _ _ _ _ hu2, run_slice_h _ _ _ _ _ hu2 .i64 8 (by omega) (by omega), he, hs]
  simp [Result.andThen, sliced, Addr.add]
theorem arr_ptr (g o c : Nat) (W : World) : (Instr.arrayAt 98 (.slice (some ⟨g, o, none⟩) 8 c)).run Try.prog W = .ok (.pointer (some ⟨g, o, none⟩)) W := by
  first
    | kernel_rfl
    | rfl
    | simp [Instr.arrayAt, go_sem, Try.underlying98]
theorem part5 (xs : Array Value) (i : Nat) (k : Int) (h : xs[i]? = some (.int .u8 k)) (W : World) : (part 5 xs i).run Try.prog W = .ok (.int .u8 k) W := by
  simp [part, go_sem, h]
theorem eq_step (xs ys : Array Value) (i : Nat) (is : List Nat) (a b : Int) (hx : xs[i]? = some (.int .u8 a)) (hy : ys[i]? = some (.int .u8 b)) (r : Bool) (W : World) (h : (Op.eqItems (9998 + 1) 5 1 xs ys is).run Try.prog W = .ok r W) : (Op.eqItems (9998 + 1) 5 1 xs ys (i :: is)).run Try.prog W = .ok (a == b && r) W := by
  simp only [Op.eqItems, Sem.run_bind, Nat.mul_one, part5 xs i a hx, part5 ys i b hy, Result.andThen_ok, run_equalIn_int W 9998 5 .u8 .u8 a b Try.underlying5]
  cases hab : (a == b)
  · simp
  · simp [h]
theorem eq98 (n0 n1 n2 n3 n4 n5 n6 n7 m0 m1 m2 m3 m4 m5 m6 m7 : Int) (W : World) : (binOp .eql 98 (.agg #[.int .u8 n0, .int .u8 n1, .int .u8 n2, .int .u8 n3, .int .u8 n4, .int .u8 n5, .int .u8 n6, .int .u8 n7]) (.agg #[.int .u8 m0, .int .u8 m1, .int .u8 m2, .int .u8 m3, .int .u8 m4, .int .u8 m5, .int .u8 m6, .int .u8 m7])).run Try.prog W = .ok (.bool (n0 == m0 && (n1 == m1 && (n2 == m2 && (n3 == m3 && (n4 == m4 && (n5 == m5 && (n6 == m6 && (n7 == m7 && true))))))))) W := by
  obtain ⟨i0, hi, _⟩ := info_parts info5'
  rw [run_eql_struct, show (10000 : Nat) = 9998 + 1 + 1 from rfl, run_equalIn_array W (9998 + 1) _ _ Try.underlying98 hi, show Try.prog.cellsOf 5 = 1 from cells5, show List.range 8 = [0, 1, 2, 3, 4, 5, 6, 7] from rfl]
  rw [eq_step _ _ 0 _ n0 m0 rfl rfl _ W (eq_step _ _ 1 _ n1 m1 rfl rfl _ W (eq_step _ _ 2 _ n2 m2 rfl rfl _ W (eq_step _ _ 3 _ n3 m3 rfl rfl _ W (eq_step _ _ 4 _ n4 m4 rfl rfl _ W (eq_step _ _ 5 _ n5 m5 rfl rfl _ W (eq_step _ _ 6 _ n6 m6 rfl rfl _ W (eq_step _ _ 7 _ n7 m7 rfl rfl true W (by simp [Op.eqItems]))))))))]
  rfl
theorem list8 {α : Type} {l : List α} (h : l.length = 8) : ∃ a0 a1 a2 a3 a4 a5 a6 a7, l = [a0, a1, a2, a3, a4, a5, a6, a7] := by
  match l, h with
  | [a0, a1, a2, a3, a4, a5, a6, a7], _ => exact ⟨a0, a1, a2, a3, a4, a5, a6, a7, rfl⟩
theorem eqb8 (x0 x1 x2 x3 x4 x5 x6 x7 a0 a1 a2 a3 a4 a5 a6 a7 : UInt8) : ((x0.toNat : Int) == (a0.toNat : Int) && ((x1.toNat : Int) == (a1.toNat : Int) && ((x2.toNat : Int) == (a2.toNat : Int) && ((x3.toNat : Int) == (a3.toNat : Int) && ((x4.toNat : Int) == (a4.toNat : Int) && ((x5.toNat : Int) == (a5.toNat : Int) && ((x6.toNat : Int) == (a6.toNat : Int) && ((x7.toNat : Int) == (a7.toNat : Int) && true)))))))) = ([x0, x1, x2, x3, x4, x5, x6, x7] == [a0, a1, a2, a3, a4, a5, a6, a7]) := by
  have e : ∀ x a : UInt8, ((x.toNat : Int) == (a.toNat : Int)) = (x == a) := fun x a => by
    rw [Bool.eq_iff_iff]
    simp only [beq_iff_eq]
    exact ⟨fun h => UInt8.toNat_inj.1 (by omega), fun h => by rw [h]⟩
  simp only [e]
  rfl
set_option maxRecDepth 100000 in
set_option maxHeartbeats 3200000 in
theorem bears_any {L g c : Nat} {bs m : List UInt8} (w : World) (h : w.ownsRow L 5 1 (.slice (some ⟨g, 0, none⟩) 512 c) 512 (bs.map B)) (hc : 512 ≤ c) (hm : m.length = 8) : Calls Try.prog 53 #[.slice (some ⟨g, 0, none⟩) 512 c, .agg (m.map B).toArray] w fun e w' => e = .returned (.bool (bs.take 8 == m && bs.drop 504 == m)) ∧ Below w.heap.size w w' := by
  have hl : bs.length = 512 := by have := h.1; simpa using this
  have hcell : ∀ i (hi : i < 512), w.cell? ⟨g, i, none⟩ = some (B (bs[i]'(by omega))) := fun i hi => by
    have := h.cells (g := g) rfl i (B (bs[i]'(by omega))) (by rw [List.getElem?_map, List.getElem?_eq_getElem (by omega)]; rfl)
    rwa [addr_add, Nat.zero_add] at this
  obtain ⟨x0, x1, x2, x3, x4, x5, x6, x7, hx⟩ := list8 (l := bs.take 8) (by rw [List.length_take]; omega)
  obtain ⟨y0, y1, y2, y3, y4, y5, y6, y7, hy⟩ := list8 (l := bs.drop 504) (by rw [List.length_drop]; omega)
  obtain ⟨a0, a1, a2, a3, a4, a5, a6, a7, ha⟩ := list8 hm
  have hxi : ∀ i (hi : i < 8), bs[i]? = [x0, x1, x2, x3, x4, x5, x6, x7][i]? := fun i hi => by rw [← hx, List.getElem?_take, if_pos hi]
  have hyi : ∀ i (hi : i < 8), bs[504 + i]? = [y0, y1, y2, y3, y4, y5, y6, y7][i]? := fun i hi => by rw [← hy, List.getElem?_drop]
  have hcx : ∀ i v, i < 8 → [x0, x1, x2, x3, x4, x5, x6, x7][i]? = some v → w.cell? ⟨g, i, none⟩ = some (B v) := fun i v hi hv => by
    rw [hcell i (by omega)]
    rw [← hxi i hi, List.getElem?_eq_getElem (by omega)] at hv
    cases hv; rfl
  have hcy : ∀ i v, i < 8 → [y0, y1, y2, y3, y4, y5, y6, y7][i]? = some v → w.cell? ⟨g, 504 + i, none⟩ = some (B v) := fun i v hi hv => by
    rw [hcell (504 + i) (by omega)]
    rw [← hyi i hi, List.getElem?_eq_getElem (by omega)] at hv
    cases hv; rfl
  have hg : g < w.heap.size := World.block_lt_of_cell? w _ (hcell 0 (by omega))
  obtain ⟨H, hH⟩ : ∃ H, H = w.heap.size := ⟨_, rfl⟩
  obtain ⟨w1, hw1⟩ : ∃ w1, w1 = w.alloc (.cells #[.int .u8 (a0.toNat : Int), .int .u8 (a1.toNat : Int), .int .u8 (a2.toNat : Int), .int .u8 (a3.toNat : Int), .int .u8 (a4.toNat : Int), .int .u8 (a5.toNat : Int), .int .u8 (a6.toNat : Int), .int .u8 (a7.toNat : Int)] 98) := ⟨_, rfl⟩
  have hb1 : Below H w w1 := by rw [hw1, hH]; exact (Below.refl _ _).alloc (Nat.le_refl _) _
  have hB : Blk w1 H #[.int .u8 (a0.toNat : Int), .int .u8 (a1.toNat : Int), .int .u8 (a2.toNat : Int), .int .u8 (a3.toNat : Int), .int .u8 (a4.toNat : Int), .int .u8 (a5.toNat : Int), .int .u8 (a6.toNat : Int), .int .u8 (a7.toNat : Int)] 98 := by rw [hw1, hH]; exact heap_alloc_new w _
  have d0 : w1.cell? ⟨g, 0, none⟩ = some (.int .u8 (x0.toNat : Int)) := (hb1.cell (p := ⟨g, 0, none⟩) (by rw [hH]; exact hg)).trans (hcx 0 x0 (by omega) rfl)
  have u0' : w1.cell? ⟨g, 504, none⟩ = some (.int .u8 (y0.toNat : Int)) := (hb1.cell (p := ⟨g, 504, none⟩) (by rw [hH]; exact hg)).trans (hcy 0 y0 (by omega) rfl)
  have e0 : w1.cell? ⟨H, 0, none⟩ = some (.int .u8 (a0.toNat : Int)) := hB.cell 0
  have d1 : w1.cell? ⟨g, 1, none⟩ = some (.int .u8 (x1.toNat : Int)) := (hb1.cell (p := ⟨g, 1, none⟩) (by rw [hH]; exact hg)).trans (hcx 1 x1 (by omega) rfl)
  have u1' : w1.cell? ⟨g, 505, none⟩ = some (.int .u8 (y1.toNat : Int)) := (hb1.cell (p := ⟨g, 505, none⟩) (by rw [hH]; exact hg)).trans (hcy 1 y1 (by omega) rfl)
  have e1 : w1.cell? ⟨H, 1, none⟩ = some (.int .u8 (a1.toNat : Int)) := hB.cell 1
  have d2 : w1.cell? ⟨g, 2, none⟩ = some (.int .u8 (x2.toNat : Int)) := (hb1.cell (p := ⟨g, 2, none⟩) (by rw [hH]; exact hg)).trans (hcx 2 x2 (by omega) rfl)
  have u2' : w1.cell? ⟨g, 506, none⟩ = some (.int .u8 (y2.toNat : Int)) := (hb1.cell (p := ⟨g, 506, none⟩) (by rw [hH]; exact hg)).trans (hcy 2 y2 (by omega) rfl)
  have e2 : w1.cell? ⟨H, 2, none⟩ = some (.int .u8 (a2.toNat : Int)) := hB.cell 2
  have d3 : w1.cell? ⟨g, 3, none⟩ = some (.int .u8 (x3.toNat : Int)) := (hb1.cell (p := ⟨g, 3, none⟩) (by rw [hH]; exact hg)).trans (hcx 3 x3 (by omega) rfl)
  have u3' : w1.cell? ⟨g, 507, none⟩ = some (.int .u8 (y3.toNat : Int)) := (hb1.cell (p := ⟨g, 507, none⟩) (by rw [hH]; exact hg)).trans (hcy 3 y3 (by omega) rfl)
  have e3 : w1.cell? ⟨H, 3, none⟩ = some (.int .u8 (a3.toNat : Int)) := hB.cell 3
  have d4 : w1.cell? ⟨g, 4, none⟩ = some (.int .u8 (x4.toNat : Int)) := (hb1.cell (p := ⟨g, 4, none⟩) (by rw [hH]; exact hg)).trans (hcx 4 x4 (by omega) rfl)
  have u4' : w1.cell? ⟨g, 508, none⟩ = some (.int .u8 (y4.toNat : Int)) := (hb1.cell (p := ⟨g, 508, none⟩) (by rw [hH]; exact hg)).trans (hcy 4 y4 (by omega) rfl)
  have e4 : w1.cell? ⟨H, 4, none⟩ = some (.int .u8 (a4.toNat : Int)) := hB.cell 4
  have d5 : w1.cell? ⟨g, 5, none⟩ = some (.int .u8 (x5.toNat : Int)) := (hb1.cell (p := ⟨g, 5, none⟩) (by rw [hH]; exact hg)).trans (hcx 5 x5 (by omega) rfl)
  have u5' : w1.cell? ⟨g, 509, none⟩ = some (.int .u8 (y5.toNat : Int)) := (hb1.cell (p := ⟨g, 509, none⟩) (by rw [hH]; exact hg)).trans (hcy 5 y5 (by omega) rfl)
  have e5 : w1.cell? ⟨H, 5, none⟩ = some (.int .u8 (a5.toNat : Int)) := hB.cell 5
  have d6 : w1.cell? ⟨g, 6, none⟩ = some (.int .u8 (x6.toNat : Int)) := (hb1.cell (p := ⟨g, 6, none⟩) (by rw [hH]; exact hg)).trans (hcx 6 x6 (by omega) rfl)
  have u6' : w1.cell? ⟨g, 510, none⟩ = some (.int .u8 (y6.toNat : Int)) := (hb1.cell (p := ⟨g, 510, none⟩) (by rw [hH]; exact hg)).trans (hcy 6 y6 (by omega) rfl)
  have e6 : w1.cell? ⟨H, 6, none⟩ = some (.int .u8 (a6.toNat : Int)) := hB.cell 6
  have d7 : w1.cell? ⟨g, 7, none⟩ = some (.int .u8 (x7.toNat : Int)) := (hb1.cell (p := ⟨g, 7, none⟩) (by rw [hH]; exact hg)).trans (hcx 7 x7 (by omega) rfl)
  have u7' : w1.cell? ⟨g, 511, none⟩ = some (.int .u8 (y7.toNat : Int)) := (hb1.cell (p := ⟨g, 511, none⟩) (by rw [hH]; exact hg)).trans (hcy 7 y7 (by omega) rfl)
  have e7 : w1.cell? ⟨H, 7, none⟩ = some (.int .u8 (a7.toNat : Int)) := hB.cell 7
  have HB : Hid (Below H w w1 ∧ H = w.heap.size) := ⟨hb1, hH⟩
  have s8 := fun W => slice_h8 g c hc W
  have s5 := fun W => slice30o g 0 512 c 504 (by omega) (by omega) 504 rfl W
  simp only [Nat.zero_add, Nat.reduceSub] at s5
  have q1 := fun W => arr_ptr g 0 c W
  have q2 := fun W => arr_ptr g 504 (c - 504) W
  have q3 : ∀ W, (binOp .eql 98 (.agg #[.int .u8 (x0.toNat : Int), .int .u8 (x1.toNat : Int), .int .u8 (x2.toNat : Int), .int .u8 (x3.toNat : Int), .int .u8 (x4.toNat : Int), .int .u8 (x5.toNat : Int), .int .u8 (x6.toNat : Int), .int .u8 (x7.toNat : Int)]) (.agg #[.int .u8 (a0.toNat : Int), .int .u8 (a1.toNat : Int), .int .u8 (a2.toNat : Int), .int .u8 (a3.toNat : Int), .int .u8 (a4.toNat : Int), .int .u8 (a5.toNat : Int), .int .u8 (a6.toNat : Int), .int .u8 (a7.toNat : Int)])).run Try.prog W = .ok (.bool (bs.take 8 == m)) W := fun W => by rw [eq98, eqb8, hx, ha]
  have q4 : ∀ W, (binOp .eql 98 (.agg #[.int .u8 (y0.toNat : Int), .int .u8 (y1.toNat : Int), .int .u8 (y2.toNat : Int), .int .u8 (y3.toNat : Int), .int .u8 (y4.toNat : Int), .int .u8 (y5.toNat : Int), .int .u8 (y6.toNat : Int), .int .u8 (y7.toNat : Int)]) (.agg #[.int .u8 (a0.toNat : Int), .int .u8 (a1.toNat : Int), .int .u8 (a2.toNat : Int), .int .u8 (a3.toNat : Int), .int .u8 (a4.toNat : Int), .int .u8 (a5.toNat : Int), .int .u8 (a6.toNat : Int), .int .u8 (a7.toNat : Int)])).run Try.prog W = .ok (.bool (bs.drop 504 == m)) W := fun W => by rw [eq98, eqb8, hy, ha]
  have hma : (m.map B).toArray = #[.int .u8 (a0.toNat : Int), .int .u8 (a1.toNat : Int), .int .u8 (a2.toNat : Int), .int .u8 (a3.toNat : Int), .int .u8 (a4.toNat : Int), .int .u8 (a5.toNat : Int), .int .u8 (a6.toNat : Int), .int .u8 (a7.toNat : Int)] := by rw [ha]; rfl
  rw [hma]
  generalize (bs.take 8 == m) = E1 at q3 ⊢
  generalize (bs.drop 504 == m) = E2 at q4 ⊢
  clear h hl hcell hx hy ha hxi hyi hcx hcy hg hb1 hB hma hm
  cases E1 with
  | false =>
    go_enter Try.func53, Try.ntmps53
    go_upto_region 1 with fail
    rw [← hw1, ← hH]
    clear hw1 hH
    go_quiet (fail)
    go_wp2_with fail
    go_ret
    refine ⟨rfl, ?_⟩
    rw [← HB.out.2]
    exact below_dr HB.out.1 _
  | true =>
    go_enter Try.func53, Try.ntmps53
    go_upto_region 1 with fail
    rw [← hw1, ← hH]
    clear hw1 hH
    go_quiet (fail)
    go_wp2_with fail
    go_ret
    refine ⟨by cases E2 <;> rfl, ?_⟩
    rw [← HB.out.2]
    exact below_dr HB.out.1 _
end Go.Proofs.Ytjpdcahodmomgaa
