import Derived.Test.YtkdndfdofhnagaaDoorJH
import Derived.Test.YtkdndfdofhnagaaDoorJE
namespace Go.Proofs.YtkdndfdofhnagaaDoor
open Go.RowKit Go.PlainAid
set_option linter.unusedVariables false
set_option linter.unusedSimpArgs false
def hc3 (m : Int) (h : Hd) : List Value := [I (h.k * 16 + m), I h.am, I h.du]
def flatH (m : Int) : List Hd → List Value
  | [] => []
  | h :: t => hc3 m h ++ flatH m t
theorem flatH_len (m : Int) : ∀ L : List Hd, (flatH m L).length = L.length * 3
  | [] => rfl
  | h :: t => by simp [flatH, hc3, flatH_len m t]; omega
theorem flatH_append (m : Int) : ∀ (a b : List Hd), flatH m (a ++ b) = flatH m a ++ flatH m b
  | [], b => rfl
  | h :: t, b => by simp [flatH, flatH_append m t b]
theorem flatH_one (m : Int) (h : Hd) : flatH m [h] = hc3 m h := by simp [flatH]
theorem flatH_take (m : Int) : ∀ (L : List Hd) (n : Nat), (flatH m L).take (n * 3) = flatH m (L.take n)
  | [], n => by simp [flatH]
  | h :: t, 0 => by simp [flatH]
  | h :: t, n + 1 => by
    have := flatH_take m t n
    rw [show (n + 1) * 3 = n * 3 + 3 by omega]
    simp [flatH, hc3, this]
theorem flatH_drop (m : Int) : ∀ (L : List Hd) (n : Nat), (flatH m L).drop (n * 3) = flatH m (L.drop n)
  | [], n => by simp [flatH]
  | h :: t, 0 => by simp [flatH]
  | h :: t, n + 1 => by
    have := flatH_drop m t n
    rw [show (n + 1) * 3 = n * 3 + 3 by omega]
    simp [flatH, hc3, this]
theorem flatH_get (m : Int) : ∀ (L : List Hd) (i : Nat) (h : Hd), L[i]? = some h → (flatH m L)[i * 3]? = some (I (h.k * 16 + m)) ∧ (flatH m L)[i * 3 + 1]? = some (I h.am) ∧ (flatH m L)[i * 3 + 2]? = some (I h.du)
  | [], i, h, e => by simp at e
  | x :: t, 0, h, e => by
    simp at e
    subst e
    exact ⟨rfl, rfl, rfl⟩
  | x :: t, i + 1, h, e => by
    have := flatH_get m t i h (by simpa using e)
    rw [show (i + 1) * 3 = i * 3 + 3 by omega]
    simpa [flatH, hc3] using this
theorem flatH_one' (m : Int) (L : List Hd) : ∀ u ∈ flatH m L, u.oneCell' = true := by
  intro u hu
  induction L with
  | nil => simp [flatH] at hu
  | cons h t ih =>
    simp only [flatH, List.mem_append] at hu
    rcases hu with h1 | h1
    · simp [hc3, I] at h1
      rcases h1 with rfl | rfl | rfl <;> rfl
    · exact ih h1
def rbC (b : BS) (v : Value) : Array Value := #[.int .i64 b.me, .int .i64 b.room, .int .i64 b.made, v]
structure RBk (base rb : Nat) (v : Value) (b : BS) (w : World) : Prop where
  blk : Blk w rb (rbC b v) 86
  row : w.ownsRow base 104 3 v b.L.length (flatH b.me b.L)
section
variable {base rb : Nat} {v : Value} {b : BS} {w w' : World}
theorem RBk.c0 (h : RBk base rb v b w) : w.cell? ⟨rb, 0, none⟩ = some (.int .i64 b.me) := h.blk.cell 0
theorem RBk.c1 (h : RBk base rb v b w) : w.cell? ⟨rb, 1, none⟩ = some (.int .i64 b.room) := h.blk.cell 1
theorem RBk.c2 (h : RBk base rb v b w) : w.cell? ⟨rb, 2, none⟩ = some (.int .i64 b.made) := h.blk.cell 2
theorem RBk.c3 (h : RBk base rb v b w) : w.cell? ⟨rb, 3, none⟩ = some v := h.blk.cell 3
theorem RBk.ne (h : RBk base rb v b w) : v.ownBlock ≠ some rb := fun e => by
  obtain ⟨cur, h1⟩ := ownsRow_type h.row e
  exact Blk.ne_t h1 h.blk (by decide) rfl
theorem RBk.keep {A : Nat → Prop} (h : RBk base rb v b w) (hc : Chg A w w') (h1 : ¬ A rb) (h2 : ∀ k, v.ownBlock = some k → ¬ A k) : RBk base rb v b w' :=
  ⟨hc.blk h.blk h1, ownsRow_same h.row (fun g hg => hc.block g (ownsRow_lt h.row hg).2 (h2 g hg))⟩
theorem RBk.below (h : RBk base rb v b w) (hb : Below w.heap.size w w') : RBk base rb v b w' := h.keep (Chg.ofBelow (fun _ => False) hb) (by simp) (by simp)
theorem RBk.drewN (h : RBk base rb v b w) (q : Nat) : RBk base rb v b (w.drewN q) := h.below (below_drewN q (Below.refl _ _))
end
set_option maxRecDepth 100000 in
set_option maxHeartbeats 800000 in
theorem rnew7_any (me room : Int) (w : World) (hc : ncode me room = 0) : Calls Tryd.prog 28 #[.int .i64 me, .int .i64 room] w fun r w' => r = .returned (.tuple #[.pointer (some ⟨w.heap.size, 0, none⟩), .int .i64 0]) ∧ w' = w.alloc (.cells (rbC ⟨me, room, 0, []⟩ (.slice none 0 0)) 86) := by
  have h1 : 0 ≤ me ∧ me < 16 := by
    by_cases h : 0 ≤ me ∧ me < 16
    · exact h
    · have : (decide (0 ≤ me) && decide (me < 16)) = false := by simp only [Bool.and_eq_false_iff, decide_eq_false_iff_not]; omega
      simp [ncode, this] at hc
  have h2 : 0 ≤ room ∧ room ≤ 16 := by
    by_cases h : 0 ≤ room ∧ room ≤ 16
    · exact h
    · have : (decide (0 ≤ room) && decide (room ≤ 16)) = false := by simp only [Bool.and_eq_false_iff, decide_eq_false_iff_not]; omega
      simp [ncode, this, h1] at hc
  obtain ⟨h11, h12⟩ := h1
  obtain ⟨h21, h22⟩ := h2
  clear hc
  go_enter Tryd.func28, Tryd.ntmps28
  go_wp2
  go_ret2
  exact ⟨rfl, rfl⟩
set_option maxRecDepth 100000 in
set_option maxHeartbeats 800000 in
theorem rnew7_no (me room : Int) (w : World) (hc : ncode me room ≠ 0) : Calls Tryd.prog 28 #[.int .i64 me, .int .i64 room] w fun r w' => r = .returned (.tuple #[.pointer none, .int .i64 (ncode me room)]) ∧ w' = w := by
  by_cases h1 : 0 ≤ me
  · by_cases h2 : me < 16
    · by_cases h3 : 0 ≤ room
      · by_cases h4 : room ≤ 16
        · exact absurd (by simp [ncode, h1, h2, h3, h4]) hc
        · rw [show ncode me room = 1 by simp [ncode, h1, h2, h3, h4]]
          clear hc
          go_enter Tryd.func28, Tryd.ntmps28
          go_wp2
          go_ret2
          exact ⟨rfl, rfl⟩
      · rw [show ncode me room = 1 by simp [ncode, h1, h2, h3]]
        clear hc
        go_enter Tryd.func28, Tryd.ntmps28
        go_wp2
        go_ret2
        exact ⟨rfl, rfl⟩
    · rw [show ncode me room = 3 by simp [ncode, h1, h2]]
      clear hc
      go_enter Tryd.func28, Tryd.ntmps28
      go_wp2
      go_ret2
      exact ⟨rfl, rfl⟩
  · rw [show ncode me room = 3 by simp [ncode, h1]]
    clear hc
    go_enter Tryd.func28, Tryd.ntmps28
    go_wp2
    go_ret2
    exact ⟨rfl, rfl⟩
theorem sumH_take {L : List Hd} {i : Nat} {h : Hd} (hi : L[i]? = some h) : sumH (L.take (i + 1)) = sumH (L.take i) + h.am := by
  rw [List.take_add_one, hi, sumH_append]
  simp [sumH]
theorem sumH_bd {b : BS} (hk : b.Ok) (i : Nat) : 0 ≤ sumH (b.L.take i) ∧ sumH (b.L.take i) ≤ 1099511627776 * 16 := by
  have h1 := sumH_le (b.L.take i) (fun x hx => by have := hk.each x (List.mem_of_mem_take hx); omega)
  have h2 := hk.len
  have h3 := hk.r1
  have h4 : (b.L.take i).length ≤ b.L.length := by rw [List.length_take]; omega
  omega
set_option maxRecDepth 100000 in
set_option maxHeartbeats 800000 in
theorem rsum_any {base rb : Nat} {v : Value} {b : BS} (w : World) (hB : RBk base rb v b w) (hk : b.Ok) :
    Calls Tryd.prog 47 #[.pointer (some ⟨rb, 0, none⟩)] w fun r w' => r = .returned (.int .i64 (sumH b.L)) ∧ w' = w := by
  have c3 := hB.c3
  obtain ⟨ao, cap, rfl, _, _, hcell⟩ := own_read hB.row
  have HBD : Hid _ := sumH_bd hk
  have hle : b.L.length ≤ 16 := by have := hk.len; have := hk.r1; omega
  clear hB hk
  go_enter Tryd.func47, Tryd.ntmps47
  go_wp2
  go_loopw [3, 4] (fun a i wr => ∃ k : Nat, k ≤ b.L.length ∧ i = .int .i64 k ∧ a = .int .i64 (sumH (b.L.take k)) ∧ wr = w) (fun _ i _ => b.L.length - (intOf i).toNat)
  case atStart => exact ⟨0, Nat.zero_le _, rfl, rfl, rfl⟩
  case round =>
    obtain ⟨k, hkl, rfl, rfl, rfl⟩ := hrel
    by_cases hlt : k < b.L.length
    · obtain ⟨x, hx⟩ : ∃ x, b.L[k]? = some x := ⟨b.L[k]'hlt, List.getElem?_eq_getElem _⟩
      obtain ⟨g, rfl, _, _, hcc⟩ := hcell (by omega)
      have e1 : wr.cell? ⟨g, k * 3 + 1, none⟩ = some (.int .i64 x.am) := hcc _ _ (flatH_get b.me b.L k x hx).2.1
      have hs := sumH_take hx
      have h1 := HBD.out k
      have h2 := HBD.out (k + 1)
      rw [hs] at h2
      have hw : IntKind.i64.wrap (sumH (b.L.take k) + x.am) = sumH (b.L.take k) + x.am := by rw [IntKind.wrap_i64]; omega
      have HS : Hid _ := hs
      clear hcc hcell hx hs h1 h2
      generalize sumH (b.L.take k) = sm at *
      go_wp2
      go_roundw
      case rel => exact ⟨k + 1, by omega, by go_num, by rw [HS.out], (by first | trivial | rfl)⟩
      case measure => simp [intOf]; omega
    · have : k = b.L.length := by omega
      subst this
      rw [List.take_length]
      clear hcell
      go_wp2
      go_ret
      exact ⟨rfl, rfl⟩
theorem nums_take {b : BS} {i : Nat} {h : Hd} (hi : b.L[i]? = some h) : numsOf b.me (b.L.take i) ++ [h.k * 16 + b.me] = numsOf b.me (b.L.take (i + 1)) := by
  rw [List.take_add_one, hi]
  simp [numsOf]
set_option maxRecDepth 100000 in
set_option maxHeartbeats 800000 in
theorem rnumbers_any {base rb : Nat} {v : Value} {b : BS} (w : World) (hB : RBk base rb v b w) (hk : b.Ok) :
    Calls Tryd.prog 48 #[.pointer (some ⟨rb, 0, none⟩)] w fun r w' => ∃ u, r = .returned u ∧ w'.ownsRow w.heap.size 3 1 u b.L.length (b.nums.map I) ∧ Below w.heap.size w w' := by
  obtain ⟨ao, cap, hv, _, _, hcell0⟩ := own_read hB.row
  have HB : Hid _ := hB
  have hle : b.L.length ≤ 16 := by have := hk.len; have := hk.r1; omega
  have c3 := hB.c3
  rw [hv] at c3
  clear hB hk
  go_enter Tryd.func48, Tryd.ntmps48
  go_wp2
  go_loopw [3, 4] (fun a i wr => ∃ k : Nat, k ≤ b.L.length ∧ i = .int .i64 k ∧ wr.ownsRow w.heap.size 3 1 a k ((numsOf b.me (b.L.take k)).map I) ∧ Below w.heap.size w wr) (fun _ i _ => b.L.length - (intOf i).toNat)
  case atStart => exact ⟨0, Nat.zero_le _, rfl, World.ownsRow_nil _ _ _ _, Below.refl _ _⟩
  case round =>
    obtain ⟨k, hkl, rfl, hown, hbel⟩ := hrel
    have d3 : wr.cell? ⟨rb, 3, none⟩ = some (.slice ao b.L.length cap) := (hbel.cell (p := ⟨rb, 3, none⟩) HB.out.blk.lt).trans c3
    by_cases hlt : k < b.L.length
    · obtain ⟨x, hx⟩ : ∃ x, b.L[k]? = some x := ⟨b.L[k]'hlt, List.getElem?_eq_getElem _⟩
      obtain ⟨g, rfl, _, hgl, hcc⟩ := hcell0 (by omega)
      have e1 : wr.cell? ⟨g, k * 3, none⟩ = some (.int .i64 (x.k * 16 + b.me)) := (hbel.cell (p := ⟨g, k * 3, none⟩) hgl).trans (hcc _ _ (flatH_get b.me b.L k x hx).1)
      have hD16 : k + 1 ≤ 100000 := by omega
      have hbs := hbel.size
      have HO : Hid _ := hown
      have HE : Hid _ := hbel
      have HX : Hid _ := hx
      clear hcc hcell0 hx hown hbel c3
      go_wp2_with (first | (at_builtin; refine wpList_appI rfl _ _ rfl w.heap.size k u3 _ rfl HO.out (x.k * 16 + b.me) rfl (by simp) hD16 hbs ?_; intro v' w4 ho4 hg4 _))
      have HO4 : Hid _ := (nums_take HX.out) ▸ ho4
      have HB4 : Hid _ := HE.out.trans (hg4.chg.below hbs (fun j e => (ownsRow_lt HO.out e).1))
      clear ho4 hg4
      go_wp2
      go_roundw
      case rel => exact ⟨k + 1, by omega, by go_num, HO4.out, HB4.out⟩
      case measure => simp [intOf]; omega
    · have : k = b.L.length := by omega
      subst this
      rw [List.take_length] at hown
      have HO : Hid _ := hown
      have HE : Hid _ := hbel
      clear hcell0 hown hbel c3
      go_wp2
      go_ret
      exact ⟨_, rfl, HO.out, HE.out⟩
end Go.Proofs.YtkdndfdofhnagaaDoor
