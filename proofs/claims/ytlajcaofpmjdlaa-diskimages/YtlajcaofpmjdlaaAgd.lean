import Derived.Test.YtlajcaofpmjdlaaAn
namespace Go.Proofs.Ytlajcaofpmjdlaa
open Go.RowKit Go.PlainAid
set_option linter.unusedVariables false
set_option linter.unusedSimpArgs false
/-- How the program's disk and the document's agree. -/
structure AgD (x : DV) (r : RV) : Prop where
  n : x.n = r.n
  b : x.b = r.b
  off : x.off = !r.on
  arm : x.armed = decide (0 ≤ r.left)
  whole : 0 ≤ r.left → (x.whole : Int) = r.left
  torn : 0 ≤ r.left → x.torn = r.torn
  left : -1 ≤ r.left ∧ r.left ≤ 9223372036854775807
  tb : r.torn ≤ 512
  wr : x.writes = r.log.length
  tr : ∀ (i : Nat) (g : RE), r.log[i]? = some g → r.log.length ≤ i + 64 → x.tr (i % 64) = g.s
theorem nl1 : (-1 : Int) ≤ -1 ∧ (-1 : Int) ≤ 9223372036854775807 := by decide
theorem nl2 : ¬ (0 : Int) ≤ -1 := by decide
theorem AgD.new (n : Nat) : AgD (fresh n) (rfresh n []) := by
  refine ⟨rfl, ?_, rfl, rfl, ?_, ?_, nl1, Nat.zero_le 512, rfl, ?_⟩
  · funext k
    show (0 : UInt8) = layAll [] [] k
    rfl
  · intro h; exact absurd h nl2
  · intro h; exact absurd h nl2
  · intro i g h
    simp [rfresh] at h
theorem AgD.fromI (n : Nat) (bs : List UInt8) (hl : bs.length = n * 512) : AgD (fromX n bs) (rfresh n bs) := by
  refine ⟨rfl, ?_, rfl, rfl, ?_, ?_, nl1, Nat.zero_le 512, rfl, ?_⟩
  · funext k
    show (if k < n * 512 then bs.getD k 0 else 0) = layAll bs [] k
    show _ = bs.getD k 0
    by_cases h : k < n * 512
    · rw [if_pos h]
    · rw [if_neg h, List.getD_eq_getElem?_getD, List.getElem?_eq_none (by omega)]
      rfl
  · intro h; exact absurd h nl2
  · intro h; exact absurd h nl2
  · intro i g h
    simp [rfresh] at h
theorem AgD.offs {x : DV} {r : RV} (h : AgD x r) : AgD x.offed { r with on := false, left := -1 } := by
  refine ⟨h.n, h.b, rfl, rfl, ?_, ?_, nl1, h.tb, h.wr, h.tr⟩
  · intro h; exact absurd h nl2
  · intro h; exact absurd h nl2
theorem AgD.ons {x : DV} {r : RV} (h : AgD x r) : AgD { x with off := false } { r with on := true } := ⟨h.n, h.b, rfl, h.arm, h.whole, h.torn, h.left, h.tb, h.wr, h.tr⟩
theorem AgD.arms {x : DV} {r : RV} (h : AgD x r) (a t : Int) (ha : a ≤ 9223372036854775807) : AgD (x.arm a t) { r with left := max a (-1), torn := tornN t } := by
  have htn : tornN t ≤ 512 := by unfold tornN; omega
  by_cases h0 : a < 0
  · have e : x.arm a t = { x with armed := false, whole := 0, torn := 0 } := by unfold DV.arm; rw [if_pos h0]
    rw [e]
    have em : max a (-1) = -1 := by omega
    refine ⟨h.n, h.b, h.off, ?_, ?_, ?_, ?_, htn, h.wr, h.tr⟩
    · show false = decide (0 ≤ max a (-1))
      rw [em]; rfl
    · intro h1
      have h2 : 0 ≤ max a (-1) := h1
      omega
    · intro h1
      have h2 : 0 ≤ max a (-1) := h1
      omega
    · show -1 ≤ max a (-1) ∧ max a (-1) ≤ 9223372036854775807
      omega
  · have e : x.arm a t = { x with armed := true, whole := a.toNat, torn := tornN t } := by unfold DV.arm; rw [if_neg h0]
    rw [e]
    have em : max a (-1) = a := by omega
    refine ⟨h.n, h.b, h.off, ?_, ?_, ?_, ?_, htn, h.wr, h.tr⟩
    · show true = decide (0 ≤ max a (-1))
      rw [em]
      exact (decide_eq_true (by omega)).symm
    · intro _
      show (a.toNat : Int) = max a (-1)
      omega
    · intro _
      rfl
    · show -1 ≤ max a (-1) ∧ max a (-1) ≤ 9223372036854775807
      omega
theorem layAll_app (first : List UInt8) (log : List RE) (g : RE) : layAll first (log ++ [g]) = lay (layAll first log) g := by
  unfold layAll
  rw [List.foldl_append]
  rfl
theorem tr_next {x : DV} {r : RV} (h : AgD x r) (i : Nat) (g : RE) (hg : g.s = i) : ∀ (j : Nat) (e : RE), (r.log ++ [g])[j]? = some e → (r.log ++ [g]).length ≤ j + 64 → (x.noted i).tr (j % 64) = e.s := by
  intro j e he hj
  rw [List.length_append, List.length_singleton] at hj
  show (if j % 64 = x.writes % 64 then i else x.tr (j % 64)) = e.s
  by_cases hlt : j < r.log.length
  · rw [List.getElem?_append_left hlt] at he
    rw [h.wr, if_neg (by omega)]
    exact h.tr j e he (by omega)
  · have hlen := (List.getElem?_eq_some_iff.1 he).1
    rw [List.length_append, List.length_singleton] at hlen
    have hje : j = r.log.length := by omega
    rw [List.getElem?_append_right (by omega), hje, Nat.sub_self] at he
    cases he
    rw [h.wr, hje, if_pos rfl, hg]
/-- A write that the power takes. -/
theorem AgD.wrTorn {x : DV} {r : RV} (h : AgD x r) (i : Nat) (v : Value) (bs : List UInt8) (hz : r.left = 0) : AgD ((x.noted i).put i x.torn bs).offed (r.wr i v bs) := by
  have e : r.wr i v bs = { r with log := r.log ++ [⟨i, r.torn, v, bs⟩], on := false, left := -1 } := by unfold RV.wr; rw [if_pos hz]
  rw [e]
  have htt : x.torn = r.torn := h.torn (by omega)
  refine ⟨h.n, ?_, rfl, rfl, ?_, ?_, nl1, h.tb, ?_, tr_next h i _ rfl⟩
  · funext k
    show (if i * 512 ≤ k ∧ k < i * 512 + x.torn then bs.getD (k - i * 512) 0 else x.b k) = layAll r.first (r.log ++ [⟨i, r.torn, v, bs⟩]) k
    rw [layAll_app, h.b, htt]
    rfl
  · intro h; exact absurd h nl2
  · intro h; exact absurd h nl2
  · show x.writes + 1 = (r.log ++ [_]).length
    rw [List.length_append, h.wr]
    rfl
/-- A write that is done whole. -/
theorem AgD.wrWhole {x : DV} {r : RV} (h : AgD x r) (i : Nat) (v : Value) (bs : List UInt8) (hz : ¬ r.left = 0) : AgD ((x.noted i).dec.put i 512 bs) (r.wr i v bs) := by
  have e : r.wr i v bs = { r with log := r.log ++ [⟨i, 512, v, bs⟩], left := if 0 < r.left then r.left - 1 else r.left } := by unfold RV.wr; rw [if_neg hz]
  rw [e]
  have hb : ∀ y : DV, y.b = x.b → (y.put i 512 bs).b = layAll r.first (r.log ++ [⟨i, 512, v, bs⟩]) := fun y hy => by
    funext k
    show (if i * 512 ≤ k ∧ k < i * 512 + 512 then bs.getD (k - i * 512) 0 else y.b k) = _
    rw [layAll_app, hy, h.b]
    rfl
  have hl := h.left
  by_cases hp : 0 < r.left
  · have ha : x.armed = true := by rw [h.arm]; exact decide_eq_true (by omega)
    have hd : (x.noted i).dec = { x.noted i with whole := x.whole - 1 } := by unfold DV.dec; rw [if_pos (by show x.armed = true; exact ha)]; rfl
    rw [hd, if_pos hp]
    have hw := h.whole (by omega)
    refine ⟨h.n, hb _ rfl, h.off, ?_, ?_, ?_, ?_, h.tb, ?_, tr_next h i _ rfl⟩
    · show x.armed = decide (0 ≤ r.left - 1)
      rw [ha]
      exact (decide_eq_true (by omega)).symm
    · intro _
      show ((x.whole - 1 : Nat) : Int) = r.left - 1
      omega
    · intro _
      exact h.torn (by omega)
    · show -1 ≤ r.left - 1 ∧ r.left - 1 ≤ _
      omega
    · show x.writes + 1 = (r.log ++ [_]).length
      rw [List.length_append, h.wr]
      rfl
  · have ha : x.armed = false := by rw [h.arm]; exact decide_eq_false (by omega)
    have hd : (x.noted i).dec = x.noted i := by unfold DV.dec; rw [if_neg (by show ¬ x.armed = true; rw [ha]; simp)]
    rw [hd, if_neg hp]
    refine ⟨h.n, hb _ rfl, h.off, h.arm, h.whole, h.torn, h.left, h.tb, ?_, tr_next h i _ rfl⟩
    show x.writes + 1 = (r.log ++ [_]).length
    rw [List.length_append, h.wr]
    rfl
/-- The two traces are one. -/
theorem AgD.trace {x : DV} {r : RV} (h : AgD x r) : trL x = rtrL r := by
  apply List.ext_getElem?
  intro j
  have hw := h.wr
  by_cases hj : j < min x.writes 64
  · rw [trL_get x j hj]
    unfold rtrL
    rw [List.getElem?_map, List.getElem?_drop]
    have hlt : r.log.length - 64 + j < r.log.length := by omega
    rw [List.getElem?_eq_getElem hlt]
    simp only [Option.map_some]
    congr 2
    rw [show x.writes - min x.writes 64 + j = r.log.length - 64 + j by omega]
    exact_mod_cast h.tr _ _ (List.getElem?_eq_getElem hlt) (by omega)
  · rw [List.getElem?_eq_none (by rw [trL_len]; omega), List.getElem?_eq_none (by unfold rtrL; rw [List.length_map, List.length_drop]; omega)]
theorem AgD.image {x : DV} {r : RV} (h : AgD x r) : imgL x = (List.range (512 * r.n)).map r.b := by unfold imgL; rw [h.n, h.b]
theorem AgD.reach {x : DV} {r : RV} (h : AgD x r) (i : Int) : reachE x i = rrE r i := by
  unfold reachE rrE
  rw [h.off, h.n]
  cases r.on <;> simp
end Go.Proofs.Ytlajcaofpmjdlaa
