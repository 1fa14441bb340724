import Derived.Test.YtneiomimjgfbpaaRNum
import Derived.Test.YtneiomimjgfbpaaWMeth
namespace Go.Proofs.Ytneiomimjgfbpaa
open Go.RowKit Go.PlainAid
theorem from_part {hb b off n cap : Nat} {bs : List UInt8} {p k o : Nat} {w : World} (hS : RSt hb (some ⟨b, off, none⟩) n cap bs (p + k) w) (ho : 0 < k → o = off + p) : From w (some ⟨b, o, none⟩) ((bs.drop p).take k) := by
  intro h0
  have hk : 0 < k := by
    rcases Nat.eq_zero_or_pos k with e | e
    · subst e; simp at h0
    · exact e
  refine ⟨b, o, rfl, fun j u hu => ?_⟩
  rw [List.getElem?_take] at hu
  split at hu
  · rw [List.getElem?_drop] at hu
    have hj := (List.getElem?_eq_some_iff.1 hu).1
    obtain ⟨b', off', e, hc⟩ := hS.src (by omega)
    cases e
    rw [ho hk, Nat.add_assoc]
    exact hc _ _ hu
  · cases hu
set_option maxRecDepth 100000 in
set_option maxHeartbeats 800000 in
theorem text_r (hb b off n cap : Nat) (bs : List UInt8) (p mb mo k : Nat) (C : Array Value) (T : TypeId) (old : Value) (a : List UInt8) (w : World) (hS : RSt hb (some ⟨b, off, none⟩) n cap bs p w)
    (hB : Blk w mb C T) (ho : C[mo]? = some old) (hne : mb ≠ hb) (hne2 : b ≠ mb) (hk : k ≤ 1000000) :
    Calls Try.prog 124 #[.pointer (some ⟨hb, 0, none⟩), .pointer (some ⟨mb, mo, none⟩), .int .i64 (k : Nat), Str a] w
      (RPostV hb mb (some ⟨b, off, none⟩) n cap bs p w ((text a k).rd (bs.drop p)) fun v e w' => e = tup ∧ Blk w' mb (C.setIfInBounds mo (Str v)) T) := by
  have c1 := hS.cell1
  have hle := hS.le
  have hlen := hS.len
  have hdl : (bs.drop p).length = n - p := by rw [List.length_drop, hlen]
  unfold Str
  by_cases hs : n < p + k
  · have hn : (text a k).rd (bs.drop p) = .error (n - p) := by
      simp only [text, Codec.guard, some']; rw [if_pos (by omega), hdl]
    have HN : Hid _ := hn
    clear hn hB
    go_enter Try.func124, Try.ntmps124
    go_wp2_with fail
    refine (take_short hb _ n cap bs p k _ hS hs).mono ?_
    rintro e w1 ⟨rfl, hS1, hst1⟩
    refine ⟨rfl, ?_⟩
    unfold RPostV
    rw [HN.out]
    exact ⟨rfl, by rw [show p + (n - p) = n from by omega]; exact hS1, hst1.wide⟩
  · have hn : (text a k).rd (bs.drop p) = if good a ((bs.drop p).take k) then .ok ((bs.drop p).take k, k) else .error 0 := by
      simp only [text, Codec.guard, some']; rw [if_neg (by omega)]
    have HN : Hid _ := hn
    clear hn
    go_enter Try.func124, Try.ntmps124
    go_wp2_with fail
    refine (take_ok hb b off n cap bs p k _ hS (by omega)).mono ?_
    rintro e w1 ⟨⟨o, rfl, hoo⟩, hS1, hst1⟩
    have hcv := conv_run w1 (some ⟨b, o, none⟩) k (cap - p) ((bs.drop p).take k) (by rw [List.length_take]; omega) (from_part hS1 hoo)
    have hsl : ((bs.drop p).take k).length ≤ 1000000 := by rw [List.length_take]; omega
    have hB1 := hB.keep hst1 hne
    have q0 := hB1.cell mo
    rw [ho] at q0
    have q1 := hB1.frozen mo
    clear hB c1
    generalize (bs.drop p).take k = s at *
    have hB2 := hB1.set mo (Str s)
    have hS2 := hS1.setM hne hne2 mo (Str s)
    have hT2 : RStep hb mb w (w1.setCell ⟨mb, mo, none⟩ (Str s)) := hst1.wide.trans (RStep.setM _ _ _)
    have hcs : (w1.setCell ⟨mb, mo, none⟩ (Str s)).cell? ⟨mb, mo, none⟩ = some (Str s) := by
      rw [hB2.cell]
      have := (Array.getElem?_eq_some_iff.1 ho).1
      simp [this]
    unfold Str at hB2 hS2 hT2 hcs
    go_wp2_with fail
    generalize w1.setCell ⟨mb, mo, none⟩ (.string ⟨s.toArray⟩) = w2 at *
    refine (goodName_any s a w2 (by omega)).mono ?_
    rintro e wz ⟨rfl, hwz⟩
    subst wz
    clear hcv
    by_cases hg : good a s = true
    · rw [if_pos hg] at HN
      rw [hg]
      go_wp2
      go_end0
      unfold RPostV
      rw [HN.out]
      exact ⟨⟨rfl, hB2⟩, hS2, hT2⟩
    · rw [if_neg hg] at HN
      rw [show good a s = false from by simpa using hg]
      go_wp2_with fail
      refine (giveUp_any hb _ n cap bs (p + k) p _ hS2 hle).mono ?_
      rintro e w3 ⟨rfl, hS3, hst3⟩
      refine ⟨rfl, ?_⟩
      unfold RPostV
      rw [HN.out]
      exact ⟨rfl, hS3, hT2.trans hst3.wide⟩
end Go.Proofs.Ytneiomimjgfbpaa
namespace Go.Proofs.Ytneiomimjgfbpaa
open Go.RowKit Go.PlainAid
def RH (hb : Nat) : Value := .iface 113 (.pointer (some ⟨hb, 0, none⟩))
theorem get_ne (C : Array Value) (i j : Nat) (v : Value) (h : i ≠ j) : (C.setIfInBounds i v)[j]? = C[j]? := by
  rw [Array.getElem?_setIfInBounds, if_neg h]
theorem get_eq (C : Array Value) (i : Nat) (v x : Value) (h : C[i]? = some x) : (C.setIfInBounds i v)[i]? = some v := by
  have := (Array.getElem?_eq_some_iff.1 h).1
  simp [this]
theorem RStep.fresh {hb mb lb : Nat} {w w1 : World} {o : Obj} (h : RStep hb lb (w.alloc o) w1) (hl : lb = w.heap.size) : RStep hb mb w w1 :=
  ⟨h.os, h.tape, h.output, Nat.le_trans (by simp) h.size, fun k hk h1 _ => (h.block k (by simp; omega) h1 (by omega)).trans (Below.heap_alloc _ _ _ hk)⟩
theorem RSt.alloc {hb b off n cap : Nat} {bs : List UInt8} {p : Nat} {w : World} (h : RSt hb (some ⟨b, off, none⟩) n cap bs p w) (hbw : b < w.heap.size) (o : Obj) : RSt hb (some ⟨b, off, none⟩) n cap bs p (w.alloc o) :=
  h.other (Below.heap_alloc _ _ _ h.lt) (fun b' off' e => by cases e; exact Below.heap_alloc _ _ _ hbw)
theorem name_rd (a l : List UInt8) : (name a).rd l = match (num 1 16).rd l with
    | .error k => .error k
    | .ok (n, k) => match (text a n.toNat).rd (l.drop k) with
      | .error j => .error (k + j)
      | .ok (s, j) => .ok (s, k + j) := by
  simp only [name, Codec.map, Codec.bind]
  cases (num 1 16).rd l with
  | error k => rfl
  | ok v =>
    obtain ⟨n, k⟩ := v
    simp only
    cases (text a n.toNat).rd (l.drop k) with
    | error j => rfl
    | ok v => rfl
theorem num_ok {lo hi : Nat} {l : List UInt8} {v : Int} {k : Nat} (h : (num lo hi).rd l = .ok (v, k)) : (lo : Int) ≤ v ∧ v ≤ (hi : Int) := by
  simp only [num] at h
  split at h
  · cases h
  · split at h
    · rename_i hx
      simp only [Bool.and_eq_true, decide_eq_true_eq] at hx
      cases h
      omega
    · cases h
set_option maxRecDepth 100000 in
set_option maxHeartbeats 800000 in
theorem name_r (hb b off n cap : Nat) (bs : List UInt8) (p mb mo : Nat) (C : Array Value) (T : TypeId) (s0 a : List UInt8) (w : World) (hS : RSt hb (some ⟨b, off, none⟩) n cap bs p w)
    (hB : Blk w mb C T) (ho : C[mo]? = some (Str s0)) (hne : mb ≠ hb) (hne2 : b ≠ mb) (hbw : b < w.heap.size) :
    Calls Try.prog 73 #[RH hb, .pointer (some ⟨mb, mo, none⟩), Str a] w
      (RPostV hb mb (some ⟨b, off, none⟩) n cap bs p w ((name a).rd (bs.drop p)) fun v e w' => e = tup ∧ Blk w' mb (C.setIfInBounds mo (Str v)) T) := by
  have hx := hB.cell mo
  rw [ho] at hx
  have hlt := hS.lt
  have hml := hB.lt
  unfold RH
  unfold Str at hx
  unfold Str
  have hnew : Blk (w.alloc (.cells #[.int .i64 (s0.length : Int)] 3)) w.heap.size #[.int .i64 (s0.length : Int)] 3 := heap_alloc_new w _
  go_enter Try.func73, Try.ntmps73
  go_wp2_with fail
  refine (number_r hb b off n cap bs p w.heap.size 0 1 16 _ 3 _ 1 16 _ (hS.alloc hbw _) hnew rfl (by omega) (by omega) rfl rfl (by decide) (by decide)).mono ?_
  intro e w1 h
  unfold RPostV at h
  cases hr : (num 1 16).rd (bs.drop p) with
  | error k =>
    have hn : (name a).rd (bs.drop p) = .error k := by rw [name_rd, hr]
    rw [hr] at h
    obtain ⟨rfl, hS1, hst1⟩ := h
    refine ⟨rfl, ?_⟩
    unfold RPostV
    rw [hn]
    exact ⟨rfl, hS1, hst1.fresh rfl⟩
  | ok v =>
    obtain ⟨x, k⟩ := v
    have hxr := num_ok hr
    have hn : (name a).rd (bs.drop p) = match (text a x.toNat).rd (bs.drop (p + k)) with
      | .error j => .error (k + j)
      | .ok (s, j) => .ok (s, k + j) := by rw [name_rd, hr]; simp only [List.drop_drop]
    rw [hr] at h
    obtain ⟨⟨rfl, hB1⟩, hS1, hst1⟩ := h
    have c1 := hB1.cell 0
    have hT1 : RStep hb mb w w1 := hst1.fresh rfl
    have hBm : Blk w1 mb C T := (hst1.block mb (by simp; omega) (by omega) (by omega)).trans ((Below.heap_alloc _ _ _ hml).trans hB)
    have hsz := hT1.size
    obtain ⟨m, rfl⟩ : ∃ m : Nat, x = m := ⟨x.toNat, by omega⟩
    rw [Int.toNat_natCast] at hn
    simp only [List.setIfInBounds_toArray, List.set_cons_zero, List.getElem?_toArray, List.getElem?_cons_zero] at c1
    have HN : Hid _ := hn
    clear hn hr hst1 hnew hB1 hx
    generalize w.heap.size = kk at *
    have hu : tup = .returned (.tuple #[]) := rfl
    rw [hu]
    go_wp2_with fail
    refine (text_r hb b off n cap bs (p + k) mb mo m C T _ a w1 hS1 hBm ho hne hne2 (by omega)).mono ?_
    intro e w2 h2
    unfold RPostV at h2
    cases hr2 : (text a m).rd (bs.drop (p + k)) with
    | error j =>
      rw [hr2] at h2
      obtain ⟨rfl, hS2, hst2⟩ := h2
      refine ⟨rfl, ?_⟩
      unfold RPostV
      rw [HN.out, hr2]
      exact ⟨rfl, by rw [← Nat.add_assoc]; exact hS2, hT1.trans hst2⟩
    | ok v =>
      obtain ⟨s, j⟩ := v
      rw [hr2] at h2
      obtain ⟨⟨rfl, hB2⟩, hS2, hst2⟩ := h2
      rw [hu]
      go_wp2
      go_end0
      unfold RPostV
      rw [HN.out, hr2]
      exact ⟨⟨rfl, hB2⟩, by rw [← Nat.add_assoc]; exact hS2, hT1.trans hst2⟩
end Go.Proofs.Ytneiomimjgfbpaa
