import Derived.Test.YtcnokgphioigoaaJD
import Derived.BigQuiet
import Derived.ChangeKeysEq
import Derived.Deep.Cut
import Derived.Deep.CutRange
import Derived.Deep.RegionWith
namespace Go.Proofs.Ytcnokgphioigoaa
open Go.RowKit Go.PlainAid
set_option linter.unusedVariables false
set_option linter.unusedSimpArgs false
theorem or_len (a b : Nat) (ha : a < 2 ^ 8) (hb : b < 2 ^ 8) : bits .or .i64 (a : Int) ((b : Int) * 256) = ((a + 256 * b : Nat) : Int) := by
  have e1 : (BitVec.ofInt 64 (a : Int)).toNat = a := by rw [BitVec.toNat_ofInt]; omega
  have e2 : (BitVec.ofInt 64 ((b : Int) * 256)).toNat = b * 2 ^ 8 := by rw [BitVec.toNat_ofInt]; omega
  have key : (BitVec.ofInt 64 (a : Int) ||| BitVec.ofInt 64 ((b : Int) * 256)).toNat = a + 256 * b := by
    rw [BitVec.toNat_or, e1, e2, Nat.or_comm, ← Nat.shiftLeft_eq, ← Nat.shiftLeft_add_eq_or_of_lt ha, Nat.shiftLeft_eq]
    omega
  show IntKind.i64.wrap ((BitVec.ofInt 64 (a : Int) ||| BitVec.ofInt 64 ((b : Int) * 256)).toNat : Nat) = _
  rw [key, IntKind.wrap_i64]
  omega
set_option maxRecDepth 100000 in
theorem lengthIn_any {L g c : Nat} {bs : List UInt8} (w : World) (h : w.ownsRow L 5 1 (.slice (some ⟨g, 0, none⟩) 512 c) 512 (bs.map B)) : Calls Try.prog 49 #[.slice (some ⟨g, 0, none⟩) 512 c] w fun e w' => e = .returned (.int .i64 (((bs.getD 5 0).toNat + 256 * (bs.getD 6 0).toNat : Nat) : Int)) ∧ ∃ q, w' = w.drewN q := by
  have hl : bs.length = 512 := by have := h.1; simpa using this
  have c5 : w.cell? ⟨g, 5, none⟩ = some (.int .u8 ((bs.getD 5 0).toNat : Int)) := by
    have := h.cells (g := g) rfl 5 (B (bs.getD 5 0)) (by rw [List.getElem?_map, List.getElem?_eq_getElem (by omega), List.getD_eq_getElem?_getD, List.getElem?_eq_getElem (by omega)]; rfl)
    rwa [addr_add, Nat.zero_add] at this
  have c6 : w.cell? ⟨g, 6, none⟩ = some (.int .u8 ((bs.getD 6 0).toNat : Int)) := by
    have := h.cells (g := g) rfl 6 (B (bs.getD 6 0)) (by rw [List.getElem?_map, List.getElem?_eq_getElem (by omega), List.getD_eq_getElem?_getD, List.getElem?_eq_getElem (by omega)]; rfl)
    rwa [addr_add, Nat.zero_add] at this
  have h5 := (bs.getD 5 0).toNat_lt
  have h6 := (bs.getD 6 0).toNat_lt
  obtain ⟨a, ha⟩ : ∃ a, a = (bs.getD 5 0).toNat := ⟨_, rfl⟩
  obtain ⟨b, hb⟩ : ∃ b, b = (bs.getD 6 0).toNat := ⟨_, rfl⟩
  rw [← ha] at c5 h5 ⊢
  rw [← hb] at c6 h6 ⊢
  clear h ha hb hl
  go_enter Try.func49, Try.ntmps49
  go_wp2_with fail
  go_quiet (fail)
  go_wp2_with fail
  go_ret
  exact ⟨ret_i64 (or_len a b h5 h6), _, rfl⟩
theorem slice_h8 (g c : Nat) (hc : 512 ≤ c) (w : World) : (Instr.sliceAt 38 (.slice (some ⟨g, 0, none⟩) 512 c) none (some (.int .i64 8)) none).run Try.prog w = .ok (.slice (some ⟨g, 0, none⟩) 8 c) w := by
  have hs : (sizeOf 5).run Try.prog w = .ok 1 w := by kernel_rfl
  have he : Try.prog.elem 38 = 5 := by kernel_rfl
  have hu2 : Try.prog.underlying 38 = some (.slice (Try.prog.elem 38)) := by rw [he]; exact Try.underlying38
  rw [run_sliceAt_slice _ _ _ _ _ _ hu2, run_slice_h _ _ _ _ _ hu2 .i64 8 (by omega) (by omega), he, hs]
  simp [Result.andThen, sliced, Addr.add]
theorem arr_ptr (g o c : Nat) (W : World) : (Instr.arrayAt 96 (.slice (some ⟨g, o, none⟩) 8 c)).run Try.prog W = .ok (.pointer (some ⟨g, o, none⟩)) W := by
  first
    | kernel_rfl
    | rfl
    | simp [Instr.arrayAt, go_sem, Try.underlying96]
theorem part5 (xs : Array Value) (i : Nat) (k : Int) (h : xs[i]? = some (.int .u8 k)) (W : World) : (part 5 xs i).run Try.prog W = .ok (.int .u8 k) W := by
  simp [part, go_sem, h]
theorem eq_step (xs ys : Array Value) (i : Nat) (is : List Nat) (a b : Int) (hx : xs[i]? = some (.int .u8 a)) (hy : ys[i]? = some (.int .u8 b)) (r : Bool) (W : World) (h : (Op.eqItems (9998 + 1) 5 1 xs ys is).run Try.prog W = .ok r W) : (Op.eqItems (9998 + 1) 5 1 xs ys (i :: is)).run Try.prog W = .ok (a == b && r) W := by
  simp only [Op.eqItems, Sem.run_bind, Nat.mul_one, part5 xs i a hx, part5 ys i b hy, Result.andThen_ok, run_equalIn_int W 9998 5 .u8 .u8 a b Try.underlying5]
  cases hab : (a == b)
  · simp
  · simp [h]
theorem eq98 (n0 n1 n2 n3 n4 n5 n6 n7 m0 m1 m2 m3 m4 m5 m6 m7 : Int) (W : World) : (binOp .eql 96 (.agg #[.int .u8 n0, .int .u8 n1, .int .u8 n2, .int .u8 n3, .int .u8 n4, .int .u8 n5, .int .u8 n6, .int .u8 n7]) (.agg #[.int .u8 m0, .int .u8 m1, .int .u8 m2, .int .u8 m3, .int .u8 m4, .int .u8 m5, .int .u8 m6, .int .u8 m7])).run Try.prog W = .ok (.bool (n0 == m0 && (n1 == m1 && (n2 == m2 && (n3 == m3 && (n4 == m4 && (n5 == m5 && (n6 == m6 && (n7 == m7 && true))))))))) W := by
  obtain ⟨i0, hi, _⟩ := info_parts info5'
  rw [run_eql_struct, show (10000 : Nat) = 9998 + 1 + 1 from rfl, run_equalIn_array W (9998 + 1) _ _ Try.underlying96 hi, show Try.prog.cellsOf 5 = 1 from cells5, show List.range 8 = [0, 1, 2, 3, 4, 5, 6, 7] from rfl]
  rw [eq_step _ _ 0 _ n0 m0 rfl rfl _ W (eq_step _ _ 1 _ n1 m1 rfl rfl _ W (eq_step _ _ 2 _ n2 m2 rfl rfl _ W (eq_step _ _ 3 _ n3 m3 rfl rfl _ W (eq_step _ _ 4 _ n4 m4 rfl rfl _ W (eq_step _ _ 5 _ n5 m5 rfl rfl _ W (eq_step _ _ 6 _ n6 m6 rfl rfl _ W (eq_step _ _ 7 _ n7 m7 rfl rfl true W (by simp [Op.eqItems]))))))))]
  rfl
theorem list8 {α : Type} {l : List α} (h : l.length = 8) : ∃ a0 a1 a2 a3 a4 a5 a6 a7, l = [a0, a1, a2, a3, a4, a5, a6, a7] := by
  match l, h with
  | [a0, a1, a2, a3, a4, a5, a6, a7], _ => exact ⟨a0, a1, a2, a3, a4, a5, a6, a7, rfl⟩
theorem eqb8 (x0 x1 x2 x3 x4 x5 x6 x7 a0 a1 a2 a3 a4 a5 a6 a7 : UInt8) : ((x0.toNat : Int) == (a0.toNat : Int) && ((x1.toNat : Int) == (a1.toNat : Int) && ((x2.toNat : Int) == (a2.toNat : Int) && ((x3.toNat : Int) == (a3.toNat : Int) && ((x4.toNat : Int) == (a4.toNat : Int) && ((x5.toNat : Int) == (a5.toNat : Int) && ((x6.toNat : Int) == (a6.toNat : Int) && ((x7.toNat : Int) == (a7.toNat : Int) && true)))))))) = ([x0, x1, x2, x3, x4, x5, x6, x7] == [a0, a1, a2, a3, a4, a5, a6, a7]) := by
  have e : ∀ x a : UInt8, ((x.toNat : Int) == (a.toNat : Int)) = (x == a) := fun x a => by
    rw [Bool.eq_iff_iff]
    simp only [beq_iff_eq]
    exact ⟨fun h => UInt8.toNat_inj.1 (by omega), fun h => by rw [h]⟩
  simp only [e]
  rfl
set_option maxRecDepth 100000 in
set_option maxHeartbeats 3200000 in
theorem bears_any {L g c : Nat} {bs m : List UInt8} (w : World) (h : w.ownsRow L 5 1 (.slice (some ⟨g, 0, none⟩) 512 c) 512 (bs.map B)) (hc : 512 ≤ c) (hm : m.length = 8) : Calls Try.prog 50 #[.slice (some ⟨g, 0, none⟩) 512 c, .agg (m.map B).toArray] w fun e w' => e = .returned (.bool (bs.take 8 == m && bs.drop 504 == m)) ∧ Below w.heap.size w w' := by
  have hl : bs.length = 512 := by have := h.1; simpa using this
  have hcell : ∀ i (hi : i < 512), w.cell? ⟨g, i, none⟩ = some (B (bs[i]'(by omega))) := fun i hi => by
    have := h.cells (g := g) rfl i (B (bs[i]'(by omega))) (by rw [List.getElem?_map, List.getElem?_eq_getElem (by omega)]; rfl)
    rwa [addr_add, Nat.zero_add] at this
  obtain ⟨x0, x1, x2, x3, x4, x5, x6, x7, hx⟩ := list8 (l := bs.take 8) (by rw [List.length_take]; omega)
  obtain ⟨y0, y1, y2, y3, y4, y5, y6, y7, hy⟩ := list8 (l := bs.drop 504) (by rw [List.length_drop]; omega)
  obtain ⟨a0, a1, a2, a3, a4, a5, a6, a7, ha⟩ := list8 hm
  have hxi : ∀ i (hi : i < 8), bs[i]? = [x0, x1, x2, x3, x4, x5, x6, x7][i]? := fun i hi => by rw [← hx, List.getElem?_take, if_pos hi]
  have hyi : ∀ i (hi : i < 8), bs[504 + i]? = [y0, y1, y2, y3, y4, y5, y6, y7][i]? := fun i hi => by rw [← hy, List.getElem?_drop]
  have hcx : ∀ i v, i < 8 → [x0, x1, x2, x3, x4, x5, x6, x7][i]? = some v → w.cell? ⟨g, i, none⟩ = some (B v) := fun i v hi hv => by
    rw [hcell i (by omega)]
    rw [← hxi i hi, List.getElem?_eq_getElem (by omega)] at hv
    cases hv; rfl
  have hcy : ∀ i v, i < 8 → [y0, y1, y2, y3, y4, y5, y6, y7][i]? = some v → w.cell? ⟨g, 504 + i, none⟩ = some (B v) := fun i v hi hv => by
    rw [hcell (504 + i) (by omega)]
    rw [← hyi i hi, List.getElem?_eq_getElem (by omega)] at hv
    cases hv; rfl
  have hg : g < w.heap.size := World.block_lt_of_cell? w _ (hcell 0 (by omega))
  obtain ⟨H, hH⟩ : ∃ H, H = w.heap.size := ⟨_, rfl⟩
  obtain ⟨w1, hw1⟩ : ∃ w1, w1 = w.alloc (.cells #[.int .u8 (a0.toNat : Int), .int .u8 (a1.toNat : Int), .int .u8 (a2.toNat : Int), .int .u8 (a3.toNat : Int), .int .u8 (a4.toNat : Int), .int .u8 (a5.toNat : Int), .int .u8 (a6.toNat : Int), .int .u8 (a7.toNat : Int)] 96) := ⟨_, rfl⟩
  have hb1 : Below H w w1 := by rw [hw1, hH]; exact (Below.refl _ _).alloc (Nat.le_refl _) _
  have hB : Blk w1 H #[.int .u8 (a0.toNat : Int), .int .u8 (a1.toNat : Int), .int .u8 (a2.toNat : Int), .int .u8 (a3.toNat : Int), .int .u8 (a4.toNat : Int), .int .u8 (a5.toNat : Int), .int .u8 (a6.toNat : Int), .int .u8 (a7.toNat : Int)] 96 := by rw [hw1, hH]; exact heap_alloc_new w _
  have d0 : w1.cell? ⟨g, 0, none⟩ = some (.int .u8 (x0.toNat : Int)) := (hb1.cell (p := ⟨g, 0, none⟩) (by rw [hH]; exact hg)).trans (hcx 0 x0 (by omega) rfl)
  have u0' : w1.cell? ⟨g, 504, none⟩ = some (.int .u8 (y0.toNat : Int)) := (hb1.cell (p := ⟨g, 504, none⟩) (by rw [hH]; exact hg)).trans (hcy 0 y0 (by omega) rfl)
  have e0 : w1.cell? ⟨H, 0, none⟩ = some (.int .u8 (a0.toNat : Int)) := hB.cell 0
  have d1 : w1.cell? ⟨g, 1, none⟩ = some (.int .u8 (x1.toNat : Int)) := (hb1.cell (p := ⟨g, 1, none⟩) (by rw [hH]; exact hg)).trans (hcx 1 x1 (by omega) rfl)
  have u1' : w1.cell? ⟨g, 505, none⟩ = some (.int .u8 (y1.toNat : Int)) := (hb1.cell (p := ⟨g, 505, none⟩) (by rw [hH]; exact hg)).trans (hcy 1 y1 (by omega) rfl)
  have e1 : w1.cell? ⟨H, 1, none⟩ = some (.int .u8 (a1.toNat : Int)) := hB.cell 1
  have d2 : w1.cell? ⟨g, 2, none⟩ = some (.int .u8 (x2.toNat : Int)) := (hb1.cell (p := ⟨g, 2, none⟩) (by rw [hH]; exact hg)).trans (hcx 2 x2 (by omega) rfl)
  have u2' : w1.cell? ⟨g, 506, none⟩ = some (.int .u8 (y2.toNat : Int)) := (hb1.cell (p := ⟨g, 506, none⟩) (by rw [hH]; exact hg)).trans (hcy 2 y2 (by omega) rfl)
  have e2 : w1.cell? ⟨H, 2, none⟩ = some (.int .u8 (a2.toNat : Int)) := hB.cell 2
  have d3 : w1.cell? ⟨g, 3, none⟩ = some (.int .u8 (x3.toNat : Int)) := (hb1.cell (p := ⟨g, 3, none⟩) (by rw [hH]; exact hg)).trans (hcx 3 x3 (by omega) rfl)
  have u3' : w1.cell? ⟨g, 507, none⟩ = some (.int .u8 (y3.toNat : Int)) := (hb1.cell (p := ⟨g, 507, none⟩) (by rw [hH]; exact hg)).trans (hcy 3 y3 (by omega) rfl)
  have e3 : w1.cell? ⟨H, 3, none⟩ = some (.int .u8 (a3.toNat : Int)) := hB.cell 3
  have d4 : w1.cell? ⟨g, 4, none⟩ = some (.int .u8 (x4.toNat : Int)) := (hb1.cell (p := ⟨g, 4, none⟩) (by rw [hH]; exact hg)).trans (hcx 4 x4 (by omega) rfl)
  have u4' : w1.cell? ⟨g, 508, none⟩ = some (.int .u8 (y4.toNat : Int)) := (hb1.cell (p := ⟨g, 508, none⟩) (by rw [hH]; exact hg)).trans (hcy 4 y4 (by omega) rfl)
  have e4 : w1.cell? ⟨H, 4, none⟩ = some (.int .u8 (a4.toNat : Int)) := hB.cell 4
  have d5 : w1.cell? ⟨g, 5, none⟩ = some (.int .u8 (x5.toNat : Int)) := (hb1.cell (p := ⟨g, 5, none⟩) (by rw [hH]; exact hg)).trans (hcx 5 x5 (by omega) rfl)
  have u5' : w1.cell? ⟨g, 509, none⟩ = some (.int .u8 (y5.toNat : Int)) := (hb1.cell (p := ⟨g, 509, none⟩) (by rw [hH]; exact hg)).trans (hcy 5 y5 (by omega) rfl)
  have e5 : w1.cell? ⟨H, 5, none⟩ = some (.int .u8 (a5.toNat : Int)) := hB.cell 5
  have d6 : w1.cell? ⟨g, 6, none⟩ = some (.int .u8 (x6.toNat : Int)) := (hb1.cell (p := ⟨g, 6, none⟩) (by rw [hH]; exact hg)).trans (hcx 6 x6 (by omega) rfl)
  have u6' : w1.cell? ⟨g, 510, none⟩ = some (.int .u8 (y6.toNat : Int)) := (hb1.cell (p := ⟨g, 510, none⟩) (by rw [hH]; exact hg)).trans (hcy 6 y6 (by omega) rfl)
  have e6 : w1.cell? ⟨H, 6, none⟩ = some (.int .u8 (a6.toNat : Int)) := hB.cell 6
  have d7 : w1.cell? ⟨g, 7, none⟩ = some (.int .u8 (x7.toNat : Int)) := (hb1.cell (p := ⟨g, 7, none⟩) (by rw [hH]; exact hg)).trans (hcx 7 x7 (by omega) rfl)
  have u7' : w1.cell? ⟨g, 511, none⟩ = some (.int .u8 (y7.toNat : Int)) := (hb1.cell (p := ⟨g, 511, none⟩) (by rw [hH]; exact hg)).trans (hcy 7 y7 (by omega) rfl)
  have e7 : w1.cell? ⟨H, 7, none⟩ = some (.int .u8 (a7.toNat : Int)) := hB.cell 7
  have HB : Hid (Below H w w1 ∧ H = w.heap.size) := ⟨hb1, hH⟩
  have s8 := fun W => slice_h8 g c hc W
  have s5 := fun W => slice30o g 0 512 c 504 (by omega) (by omega) 504 rfl W
  simp only [Nat.zero_add, Nat.reduceSub] at s5
  have q1 := fun W => arr_ptr g 0 c W
  have q2 := fun W => arr_ptr g 504 (c - 504) W
  have q3 : ∀ W, (binOp .eql 96 (.agg #[.int .u8 (x0.toNat : Int), .int .u8 (x1.toNat : Int), .int .u8 (x2.toNat : Int), .int .u8 (x3.toNat : Int), .int .u8 (x4.toNat : Int), .int .u8 (x5.toNat : Int), .int .u8 (x6.toNat : Int), .int .u8 (x7.toNat : Int)]) (.agg #[.int .u8 (a0.toNat : Int), .int .u8 (a1.toNat : Int), .int .u8 (a2.toNat : Int), .int .u8 (a3.toNat : Int), .int .u8 (a4.toNat : Int), .int .u8 (a5.toNat : Int), .int .u8 (a6.toNat : Int), .int .u8 (a7.toNat : Int)])).run Try.prog W = .ok (.bool (bs.take 8 == m)) W := fun W => by rw [eq98, eqb8, hx, ha]
  have q4 : ∀ W, (binOp .eql 96 (.agg #[.int .u8 (y0.toNat : Int), .int .u8 (y1.toNat : Int), .int .u8 (y2.toNat : Int), .int .u8 (y3.toNat : Int), .int .u8 (y4.toNat : Int), .int .u8 (y5.toNat : Int), .int .u8 (y6.toNat : Int), .int .u8 (y7.toNat : Int)]) (.agg #[.int .u8 (a0.toNat : Int), .int .u8 (a1.toNat : Int), .int .u8 (a2.toNat : Int), .int .u8 (a3.toNat : Int), .int .u8 (a4.toNat : Int), .int .u8 (a5.toNat : Int), .int .u8 (a6.toNat : Int), .int .u8 (a7.toNat : Int)])).run Try.prog W = .ok (.bool (bs.drop 504 == m)) W := fun W => by rw [eq98, eqb8, hy, ha]
  have hma : (m.map B).toArray = #[.int .u8 (a0.toNat : Int), .int .u8 (a1.toNat : Int), .int .u8 (a2.toNat : Int), .int .u8 (a3.toNat : Int), .int .u8 (a4.toNat : Int), .int .u8 (a5.toNat : Int), .int .u8 (a6.toNat : Int), .int .u8 (a7.toNat : Int)] := by rw [ha]; rfl
  rw [hma]
  generalize (bs.take 8 == m) = E1 at q3 ⊢
  generalize (bs.drop 504 == m) = E2 at q4 ⊢
  clear h hl hcell hx hy ha hxi hyi hcx hcy hg hb1 hB hma hm
  cases E1 with
  | false =>
    go_enter Try.func50, Try.ntmps50
    go_upto_region 1 with fail
    rw [← hw1, ← hH]
    clear hw1 hH
    go_quiet (fail)
    go_wp2_with fail
    go_ret
    refine ⟨rfl, ?_⟩
    rw [← HB.out.2]
    exact below_dr HB.out.1 _
  | true =>
    go_enter Try.func50, Try.ntmps50
    go_upto_region 1 with fail
    rw [← hw1, ← hH]
    clear hw1 hH
    go_quiet (fail)
    go_wp2_with fail
    go_ret
    refine ⟨by cases E2 <;> rfl, ?_⟩
    rw [← HB.out.2]
    exact below_dr HB.out.1 _
end Go.Proofs.Ytcnokgphioigoaa
namespace Go.Proofs.Ytcnokgphioigoaa
open Go.RowKit Go.PlainAid
set_option linter.unusedVariables false
set_option linter.unusedSimpArgs false
/-- The length that a sector's first mark tells. -/
def lenIn (sec : List UInt8) : Nat := (sec.getD 5 0).toNat + 256 * (sec.getD 6 0).toNat
def bearsB (sec m : List UInt8) : Bool := sec.take 8 == m && sec.drop 504 == m
set_option maxRecDepth 100000 in
set_option maxHeartbeats 3200000 in
theorem read_none {L jb s : Nat} {y : JV} {x : DV} {R : List (Ent L)} (w : World) (h : Held (y.es L jb ++ (dmE L y.p s x :: R)) w) (ho : x.off = false) (hn : y.next < x.n) (hxn : x.n ≤ 65536) (hr : y.recs.length ≤ 1000) (hlen : lenIn (secL x.b y.next) ≤ 8192) (hbr : bearsB (secL x.b y.next) (markL (y.recs.length + 1) 0 (lenIn (secL x.b y.next))) = false) :
    Calls Try.prog 35 #[.pointer (some ⟨jb, 0, none⟩)] w fun e w' => e = .returned (.tuple #[.slice none 0 0, .bool false]) ∧ Below w.heap.size w w' := by
  obtain ⟨len, hle⟩ : ∃ len, len = lenIn (secL x.b y.next) := ⟨_, rfl⟩
  obtain ⟨nx, hnx⟩ : ∃ nx, nx = y.next := ⟨_, rfl⟩
  have HX : Hid (∀ X, Below w.heap.size w X → X.cell? ⟨jb, 0, none⟩ = some (.pointer (some ⟨y.p, 0, none⟩)) ∧ X.cell? ⟨jb, 2, none⟩ = some (.int .i64 (nx : Int)) ∧ Calls Try.prog 52 #[.pointer (some ⟨jb, 0, none⟩)] X (fun e w' => e = .returned (.int .i64 ((y.recs.length + 1 : Nat) : Int)) ∧ w' = X)) := fun X hX => by
    have h1 := h.more hX
    exact ⟨(jbox h1).cell 0, by rw [hnx]; exact (jbox h1).cell 2, number_any X h1 (by omega)⟩
  have HRD : Hid (∀ X (z : Int), z = (nx : Int) → Below w.heap.size w X → Calls Try.prog 32 #[.pointer (some ⟨y.p, 0, none⟩), .int .i64 z] X fun e w' => ∃ g c, e = .returned (.tuple #[.slice (some ⟨g, 0, none⟩) 512 c, .int .i64 0]) ∧ w'.ownsRow w.heap.size 5 1 (.slice (some ⟨g, 0, none⟩) 512 c) 512 ((secL x.b y.next).map B) ∧ 512 ≤ c ∧ Below w.heap.size w w') := fun X z hz hX => by
    rw [hz, hnx]
    refine (read_yes y.next X ((h1d h).more hX) ho hn).mono ?_
    rintro e w' ⟨v', rfl, h2, h3⟩
    obtain ⟨g, c, cur, e, _⟩ : ∃ g c cur, v' = .slice (some ⟨g, 0, none⟩) 512 c ∧ cur = () := by
      rcases h2.2 with ⟨_, e2⟩ | ⟨g, c, cur, e, _⟩
      · omega
      · exact ⟨g, c, (), e, rfl⟩
    subst e
    obtain ⟨ao, cc, e, hc⟩ := own_slice h2
    cases e
    exact ⟨g, c, rfl, ownsRow_mono h2 hX.size, hc, hX.trans (h3.mono hX.size)⟩
  have HLN : Hid (∀ (X : World) (g c : Nat), X.ownsRow w.heap.size 5 1 (.slice (some ⟨g, 0, none⟩) 512 c) 512 ((secL x.b y.next).map B) → Calls Try.prog 49 #[.slice (some ⟨g, 0, none⟩) 512 c] X fun e w' => e = .returned (.int .i64 (len : Int)) ∧ ∃ q, w' = X.drewN q) := fun X g c hg => by rw [hle]; exact lengthIn_any X hg
  have HK : Hid (∀ X : World, Calls Try.prog 39 #[.int .i64 (len : Int)] X fun e w' => e = .returned (.int .i64 (kS len : Int)) ∧ w' = X) := fun X => kS_any len X (by omega)
  have HMK : Hid (∀ X : World, Calls Try.prog 51 #[.int .i64 ((y.recs.length + 1 : Nat) : Int), .int .i64 0, .int .i64 (len : Int)] X fun e w' => e = .returned (.agg (markA (y.recs.length + 1) 0 len)) ∧ Below X.heap.size X w') := fun X => mark_any (y.recs.length + 1) 0 len X (by omega) (by omega) (by omega)
  have HBR : Hid (∀ (X : World) (g c : Nat), X.ownsRow w.heap.size 5 1 (.slice (some ⟨g, 0, none⟩) 512 c) 512 ((secL x.b y.next).map B) → 512 ≤ c → Calls Try.prog 50 #[.slice (some ⟨g, 0, none⟩) 512 c, .agg (markA (y.recs.length + 1) 0 len)] X fun e w' => e = .returned (.bool false) ∧ Below X.heap.size X w') := fun X g c hg hc => by
    have := bears_any (m := markL (y.recs.length + 1) 0 len) X hg hc (markL_len _ _ _)
    rw [show ((secL x.b y.next).take 8 == markL (y.recs.length + 1) 0 len && (secL x.b y.next).drop 504 == markL (y.recs.length + 1) 0 len) = false from by rw [hle]; exact hbr] at this
    exact this
  have hl8 : len ≤ 8192 := by omega
  have hnb : nx ≤ 65536 := by omega
  have hk1 := kS_pos len
  have hk2 := kS_le len hl8
  obtain ⟨num, hnum⟩ : ∃ num : Nat, num = y.recs.length + 1 := ⟨_, rfl⟩
  have hnu : num ≤ 1001 := by omega
  rw [← hnum] at HX HMK HBR
  obtain ⟨k, hk⟩ : ∃ k, k = kS len := ⟨_, rfl⟩
  rw [← hk] at HK hk1 hk2
  obtain ⟨c0, c2, _⟩ := HX.out w (Below.refl _ _)
  clear h hlen hbr hle hnx ho hn hxn hr hnum hk
  go_enter Try.func35, Try.ntmps35
  go_wp2_with fail
  go_region_with (go_at_call 32; refine (HRD.out _ _ rfl (by first | exact Below.refl _ _ | exact (Below.refl _ _).drew)).mono ?_; rintro e w2 ⟨g, c, rfl, hg2, hc2, hb2⟩)
  all_goals
    have hl9 : ¬ (8192 : Int) < (len : Int) := by omega
    clear c0 c2
    go_wp2_with fail
    refine Calls.mono (HLN.out _ g c (ownsRow_same hg2 (fun _ _ => rfl))) ?_
    rintro e w3 ⟨rfl, q3, hw3⟩
    have hg3 : w3.ownsRow w.heap.size 5 1 (.slice (some ⟨g, 0, none⟩) 512 c) 512 ((secL x.b y.next).map B) := by rw [hw3]; exact ownsRow_same hg2 (fun _ _ => rfl)
    have hb3 : Below w.heap.size w w3 := by rw [hw3]; first | exact below_dr hb2 q3 | exact below_dr hb2.drew q3
    clear hw3 hg2 hb2
    go_wp2_with fail
    refine Calls.mono (HLN.out _ g c hg3) ?_
    rintro e w4 ⟨rfl, q4, hw4⟩
    have hb4 : Below w.heap.size w w4 := by rw [hw4]; exact below_dr hb3 q4
    clear hw4 hg3 hb3
    obtain ⟨R4, hmk, hRs, hRa⟩ := mk_bytes len (by omega) w4
    have hb5 : Below w.heap.size w (w4.alloc (.cells R4 5)) := hb4.alloc hb4.size _
    obtain ⟨w5, hw5⟩ : ∃ w5, w5 = w4.alloc (.cells R4 5) := ⟨_, rfl⟩
    obtain ⟨g5, hg5⟩ : ∃ g5, g5 = w4.heap.size := ⟨_, rfl⟩
    rw [← hw5, ← hg5] at hmk
    rw [← hw5] at hb5
    clear hw5 hg5 hb4 hRs hRa
    go_wp2_with fail
    refine Calls.mono (HK.out _) ?_
    rintro e w6 ⟨rfl, hw6⟩
    replace hw6 := hw6.symm
    subst hw6
    clear hmk HLN HK
    have HB5 : Hid (Below w.heap.size w w5) := hb5
    clear hb5
    go_wp2_with fail
    go_loopw [33] (fun s33 wr => s33 = .int .i64 0 ∧ Below w.heap.size w wr) (fun s33 _ => 0)
    case atStart => exact ⟨rfl, HB5.out⟩
    case round =>
      clear HB5
      obtain ⟨rfl, hbr⟩ := hrel
      obtain ⟨c0, c2, hnum⟩ := HX.out wr hbr
      have hk0 : (0 : Int) < (k : Int) := by omega
      have HBRR : Hid (Below w.heap.size w wr) := hbr
      clear hnum hbr
      go_wp2_with fail
      go_region_with (go_at_call 32; refine (HRD.out _ _ (by first | rfl | (rw [IntKind.wrap_i64]; omega) | (simp; done) | (simp [IntKind.wrap_i64]; omega)) (by first | exact HBRR.out | exact HBRR.out.drew)).mono ?_; rintro e w7 ⟨g7, c7, rfl, hg7, hc7, hb7⟩)
      all_goals
        clear c0 c2
        have HG7 : Hid (w7.ownsRow w.heap.size 5 1 (.slice (some ⟨g7, 0, none⟩) 512 c7) 512 ((secL x.b y.next).map B) ∧ 512 ≤ c7 ∧ Below w.heap.size w w7) := ⟨hg7, hc7, hb7⟩
        clear hg7 hc7 hb7
        go_wp2_with fail
        refine Calls.mono (HX.out _ (by first | exact HG7.out.2.2 | exact HG7.out.2.2.drew)).2.2 ?_
        rintro e w8 ⟨rfl, hw8⟩
        have hg8 : w8.ownsRow w.heap.size 5 1 (.slice (some ⟨g7, 0, none⟩) 512 c7) 512 ((secL x.b y.next).map B) := by rw [hw8]; exact ownsRow_same HG7.out.1 (fun _ _ => rfl)
        have hb8 : Below w.heap.size w w8 := by rw [hw8]; first | exact HG7.out.2.2 | exact HG7.out.2.2.drew
        have HG8 : Hid (w8.ownsRow w.heap.size 5 1 (.slice (some ⟨g7, 0, none⟩) 512 c7) 512 ((secL x.b y.next).map B) ∧ 512 ≤ c7 ∧ Below w.heap.size w w8) := ⟨hg8, HG7.out.2.1, hb8⟩
        clear hw8 hg8 hb8 HG7
        go_wp2_with fail
        refine Calls.mono (HMK.out _) ?_
        rintro e w9 ⟨rfl, hb9⟩
        have HG9 : Hid (w9.ownsRow w.heap.size 5 1 (.slice (some ⟨g7, 0, none⟩) 512 c7) 512 ((secL x.b y.next).map B) ∧ 512 ≤ c7 ∧ Below w.heap.size w w9) := ⟨ownsRow_same HG8.out.1 (fun q hq => hb9.block q (ownsRow_lt HG8.out.1 hq).2), HG8.out.2.1, HG8.out.2.2.trans (hb9.mono HG8.out.2.2.size)⟩
        clear hb9 HG8
        generalize markA num 0 len = MM at HBR ⊢
        go_wp2_with fail
        refine Calls.mono (HBR.out _ g7 c7 HG9.out.1 HG9.out.2.1) ?_
        rintro e w10 ⟨rfl, hb10⟩
        have HF : Hid (Below w.heap.size w w10) := HG9.out.2.2.trans (hb10.mono HG9.out.2.2.size)
        clear hb10 HG9
        go_wp2_with fail
        go_ret2
        exact ⟨rfl, HF.out⟩
end Go.Proofs.Ytcnokgphioigoaa
namespace Go.Proofs.Ytcnokgphioigoaa
open Go.RowKit Go.PlainAid
set_option linter.unusedVariables false
set_option linter.unusedSimpArgs false
set_option maxRecDepth 100000 in
theorem body_any {L g c : Nat} {bs : List UInt8} (w : World) (h : w.ownsRow L 5 1 (.slice (some ⟨g, 0, none⟩) 512 c) 512 (bs.map B)) (hc : 512 ≤ c) : Calls Try.prog 54 #[.slice (some ⟨g, 0, none⟩) 512 c] w fun e w' => e = .returned (.slice (some ⟨g, 8, none⟩) 496 (c - 8)) ∧ By w (.slice (some ⟨g, 8, none⟩) 496 (c - 8)) ((bs.drop 8).take 496) ∧ w' = w := by
  have hl : bs.length = 512 := by have := h.1; simpa using this
  have hb : By w (.slice (some ⟨g, 0, none⟩) 512 c) bs := by
    have := own_by (L := L) (v := .slice (some ⟨g, 0, none⟩) 512 c) (s := bs) (w := w) (by rw [hl]; exact h)
    exact this
  obtain ⟨ao, h1, h2⟩ := by_sliced (lo := 8) (hi := 504) hb hc (by omega) (by omega) (by omega)
  have hs := fun W => slice_lh (some ⟨g, 0, none⟩) 512 c 8 504 (by omega) (by omega) W
  rw [h1] at hs
  have e : sliced (some ⟨g, 0, none⟩) 8 504 c 1 = .slice (some ⟨g, 8, none⟩) 496 (c - 8) := by
    have hn : ¬ c = 8 := by omega
    simp [sliced, hn, Addr.add]
  rw [h1] at e
  have e2 : Value.slice ao (504 - 8) (c - 8) = .slice (some ⟨g, 8, none⟩) 496 (c - 8) := e
  rw [e2] at h2 hs
  have hs' : ∀ W, (Instr.sliceAt 38 (.slice (some ⟨g, 0, none⟩) 512 c) (some (.int .i64 8)) (some (.int .i64 504)) none).run Try.prog W = .ok (.slice (some ⟨g, 8, none⟩) 496 (c - 8)) W := hs
  have HB : Hid (By w (.slice (some ⟨g, 8, none⟩) 496 (c - 8)) ((bs.drop 8).take 496)) := h2
  clear h hb h1 h2 e e2 hs hl
  go_enter Try.func54, Try.ntmps54
  go_wp2_with fail
  go_ret
  exact ⟨rfl, HB.out, rfl⟩
/-- How many bytes of a record stand at a place. -/
def plN (len i : Nat) : Nat := min ((i + 1) * 496) len - i * 496
set_option maxRecDepth 100000 in
theorem part_row {g n place : Nat} (w : World) (hn : n ≤ 8192) (hp : place < kS n) : Calls Try.prog 53 #[.slice (some ⟨g, 0, none⟩) n n, .int .i64 (place : Int)] w fun e w' => e = .returned (.slice (some ⟨g, place * 496, none⟩) (plN n place) (n - place * 496)) ∧ w' = w := by
  have hkn := kS_le n hn
  have hpl : place * 496 ≤ n ∧ (place * 496 < n ∨ place = 0) := by unfold kS at hp; omega
  have hsl : ∀ hi, place * 496 ≤ hi → hi ≤ n → sliced (some ⟨g, 0, none⟩) (place * 496) hi n 1 = .slice (some ⟨g, place * 496, none⟩) (hi - place * 496) (n - place * 496) := fun hi h1 h2 => by
    rcases hpl.2 with h3 | h3
    · have h4 : ¬ n = place * 496 := by omega
      simp [sliced, h4, Addr.add]
      try (intro h; omega)
    · subst h3
      simp [sliced, Addr.add]
      try (intros; rfl)
  by_cases hcase : (place + 1) * 496 ≤ n
  · have hs := fun W => slice_lh (some ⟨g, 0, none⟩) n n (place * 496) ((place + 1) * 496) (by omega) (by omega) W
    rw [hsl _ (by omega) hcase] at hs
    have e1 : plN n place = (place + 1) * 496 - place * 496 := by unfold plN; omega
    rw [e1]
    have e2 : ((place * 496 : Nat) : Int) = (place : Int) * 496 := by omega
    have e3 : (((place + 1) * 496 : Nat) : Int) = ((place : Int) + 1) * 496 := by omega
    rw [e2, e3] at hs
    have hle : ((place : Int) + 1) * 496 ≤ (n : Int) := by omega
    have hnlt : ¬ (n : Int) < ((place : Int) + 1) * 496 := by omega
    clear e1 e2 e3 hsl
    go_enter Try.func53, Try.ntmps53
    go_wp2_with fail
    go_ret
    exact ⟨rfl, rfl⟩
  · have hs := fun W => slice_lh (some ⟨g, 0, none⟩) n n (place * 496) n (by omega) (by omega) W
    rw [hsl _ (by omega) (Nat.le_refl _)] at hs
    have e1 : plN n place = n - place * 496 := by unfold plN; omega
    rw [e1]
    have e2 : ((place * 496 : Nat) : Int) = (place : Int) * 496 := by omega
    rw [e2] at hs
    have hlt : (n : Int) < ((place : Int) + 1) * 496 := by omega
    clear e1 e2 hsl
    go_enter Try.func53, Try.ntmps53
    go_wp2_with fail
    go_ret
    exact ⟨rfl, rfl⟩
/-- The bytes of a record that stands from a sector on. -/
def recB (b : Nat → UInt8) (next len : Nat) : List UInt8 := (List.range len).map fun j => b ((next + j / 496) * 512 + 8 + j % 496)
theorem recB_len (b : Nat → UInt8) (next len : Nat) : (recB b next len).length = len := by rw [recB, List.length_map, List.length_range]
theorem recB_getD (b : Nat → UInt8) (next len j : Nat) (h : j < len) : (recB b next len).getD j 0 = b ((next + j / 496) * 512 + 8 + j % 496) := by
  rw [List.getD_eq_getElem?_getD, recB, List.getElem?_map, List.getElem?_range h, Option.map_some, Option.getD_some]
def goodP (b : Nat → UInt8) (n next num len p : Nat) : Prop := next + p < n ∧ bearsB (secL b (next + p)) (markL num p len) = true
/-- Does a record stand there? -/
def RecOk (b : Nat → UInt8) (n next num : Nat) : Prop := next < n ∧ lenIn (secL b next) ≤ 8192 ∧ ∀ p, p < kS (lenIn (secL b next)) → goodP b n next num (lenIn (secL b next)) p
theorem sec_body (b : Nat → UInt8) (i j : Nat) (h : j < 496) : (((secL b i).drop 8).take 496).getD j 0 = b (i * 512 + 8 + j) := by
  rw [List.getD_eq_getElem?_getD, List.getElem?_take, if_pos h, List.getElem?_drop, secL_get _ _ _ (by omega), Option.getD_some, Nat.add_assoc]
end Go.Proofs.Ytcnokgphioigoaa
