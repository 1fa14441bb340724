import Derived.Test.YtneiomimjgfbpaaRText
namespace Go.Proofs.Ytneiomimjgfbpaa
open Go.RowKit Go.PlainAid

def RH (hb : Nat) : Value := .iface 113 (.pointer (some ⟨hb, 0, none⟩))

theorem get_ne (C : Array Value) (i j : Nat) (v : Value) (h : i ≠ j) : (C.setIfInBounds i v)[j]? = C[j]? := by
  rw [Array.getElem?_setIfInBounds, if_neg h]
theorem get_eq (C : Array Value) (i : Nat) (v x : Value) (h : C[i]? = some x) : (C.setIfInBounds i v)[i]? = some v := by
  have := (Array.getElem?_eq_some_iff.1 h).1
  simp [this]

theorem RStep.fresh {hb mb lb : Nat} {w w1 : World} {o : Obj} (h : RStep hb lb (w.alloc o) w1) (hl : lb = w.heap.size) : RStep hb mb w w1 :=
  ⟨h.os, h.tape, h.output, Nat.le_trans (by simp) h.size, fun k hk h1 _ => (h.block k (by simp; omega) h1 (by omega)).trans (Below.heap_alloc _ _ _ hk)⟩
theorem RSt.alloc {hb b off n cap : Nat} {bs : List UInt8} {p : Nat} {w : World} (h : RSt hb (some ⟨b, off, none⟩) n cap bs p w) (hbw : b < w.heap.size) (o : Obj) : RSt hb (some ⟨b, off, none⟩) n cap bs p (w.alloc o) :=
  h.other (Below.heap_alloc _ _ _ h.lt) (fun b' off' e => by cases e; exact Below.heap_alloc _ _ _ hbw)

theorem name_rd (a l : List UInt8) : (name a).rd l = match (num 1 16).rd l with
    | .error k => .error k
    | .ok (n, k) => match (text a n.toNat).rd (l.drop k) with
      | .error j => .error (k + j)
      | .ok (s, j) => .ok (s, k + j) := by
  simp only [name, Codec.map, Codec.bind]
  cases (num 1 16).rd l with
  | error k => rfl
  | ok v =>
    obtain ⟨n, k⟩ := v
    simp only
    cases (text a n.toNat).rd (l.drop k) with
    | error j => rfl
    | ok v => rfl

theorem num_ok {lo hi : Nat} {l : List UInt8} {v : Int} {k : Nat} (h : (num lo hi).rd l = .ok (v, k)) : (lo : Int) ≤ v ∧ v ≤ (hi : Int) := by
  simp only [num] at h
  split at h
  · cases h
  · split at h
    · rename_i hx
      simp only [Bool.and_eq_true, decide_eq_true_eq] at hx
      cases h
      omega
    · cases h

set_option maxRecDepth 100000 in
set_option maxHeartbeats 800000 in
theorem name_r (hb b off n cap : Nat) (bs : List UInt8) (p mb mo : Nat) (C : Array Value) (T : TypeId) (s0 a : List UInt8) (w : World) (hS : RSt hb (some ⟨b, off, none⟩) n cap bs p w)
    (hB : Blk w mb C T) (ho : C[mo]? = some (Str s0)) (hne : mb ≠ hb) (hne2 : b ≠ mb) (hbw : b < w.heap.size) :
    Calls Try.prog 73 #[RH hb, .pointer (some ⟨mb, mo, none⟩), Str a] w
      (RPostV hb mb (some ⟨b, off, none⟩) n cap bs p w ((name a).rd (bs.drop p)) fun v e w' => e = tup ∧ Blk w' mb (C.setIfInBounds mo (Str v)) T) := by
  have hx := hB.cell mo
  rw [ho] at hx
  have hlt := hS.lt
  have hml := hB.lt
  unfold RH
  unfold Str at hx
  unfold Str
  have hnew : Blk (w.alloc (.cells #[.int .i64 (s0.length : Int)] 3)) w.heap.size #[.int .i64 (s0.length : Int)] 3 := heap_alloc_new w _
  go_enter Try.func73, Try.ntmps73
  go_wp2_with fail
  refine (number_r hb b off n cap bs p w.heap.size 0 1 16 _ 3 _ 1 16 _ (hS.alloc hbw _) hnew rfl (by omega) (by omega) rfl rfl (by decide) (by decide)).mono ?_
  intro e w1 h
  unfold RPostV at h
  cases hr : (num 1 16).rd (bs.drop p) with
  | error k =>
    have hn : (name a).rd (bs.drop p) = .error k := by rw [name_rd, hr]
    rw [hr] at h
    obtain ⟨rfl, hS1, hst1⟩ := h
    refine ⟨rfl, ?_⟩
    unfold RPostV
    rw [hn]
    exact ⟨rfl, hS1, hst1.fresh rfl⟩
  | ok v =>
    obtain ⟨x, k⟩ := v
    have hxr := num_ok hr
    have hn : (name a).rd (bs.drop p) = match (text a x.toNat).rd (bs.drop (p + k)) with
      | .error j => .error (k + j)
      | .ok (s, j) => .ok (s, k + j) := by rw [name_rd, hr]; simp only [List.drop_drop]
    rw [hr] at h
    obtain ⟨⟨rfl, hB1⟩, hS1, hst1⟩ := h
    have c1 := hB1.cell 0
    have hT1 : RStep hb mb w w1 := hst1.fresh rfl
    have hBm : Blk w1 mb C T := (hst1.block mb (by simp; omega) (by omega) (by omega)).trans ((Below.heap_alloc _ _ _ hml).trans hB)
    have hsz := hT1.size
    obtain ⟨m, rfl⟩ : ∃ m : Nat, x = m := ⟨x.toNat, by omega⟩
    rw [Int.toNat_natCast] at hn
    simp only [List.setIfInBounds_toArray, List.set_cons_zero, List.getElem?_toArray, List.getElem?_cons_zero] at c1
    have HN : Hid _ := hn
    clear hn hr hst1 hnew hB1 hx
    generalize w.heap.size = kk at *
    have hu : tup = .returned (.tuple #[]) := rfl
    rw [hu]
    go_wp2_with fail
    refine (text_r hb b off n cap bs (p + k) mb mo m C T _ a w1 hS1 hBm ho hne hne2 (by omega)).mono ?_
    intro e w2 h2
    unfold RPostV at h2
    cases hr2 : (text a m).rd (bs.drop (p + k)) with
    | error j =>
      rw [hr2] at h2
      obtain ⟨rfl, hS2, hst2⟩ := h2
      refine ⟨rfl, ?_⟩
      unfold RPostV
      rw [HN.out, hr2]
      exact ⟨rfl, by rw [← Nat.add_assoc]; exact hS2, hT1.trans hst2⟩
    | ok v =>
      obtain ⟨s, j⟩ := v
      rw [hr2] at h2
      obtain ⟨⟨rfl, hB2⟩, hS2, hst2⟩ := h2
      rw [hu]
      go_wp2
      go_end0
      unfold RPostV
      rw [HN.out, hr2]
      exact ⟨⟨rfl, hB2⟩, by rw [← Nat.add_assoc]; exact hS2, hT1.trans hst2⟩
end Go.Proofs.Ytneiomimjgfbpaa
