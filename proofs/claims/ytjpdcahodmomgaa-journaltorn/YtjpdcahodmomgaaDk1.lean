import Derived.Test.YtjpdcahodmomgaaDk0
import Derived.Laws.CopyRow
import Derived.Laws.IdiomCopy
namespace Go.Proofs.Ytjpdcahodmomgaa
open Go.RowKit Go.PlainAid
set_option linter.unusedVariables false
set_option linter.unusedSimpArgs false
/-- A disk's values. -/
structure DV where
  n : Nat
  b : Nat → UInt8
  off : Bool
  armed : Bool
  whole : Nat
  torn : Nat
  writes : Nat
  tr : Nat → Nat
structure DBox (x : DV) (s : Nat) (C : Array Value) : Prop where
  size : C.size = 70
  c0 : C[0]? = some (.slice (some ⟨s, 0, none⟩) x.n x.n)
  c1 : C[1]? = some (.bool x.off)
  c2 : C[2]? = some (.bool x.armed)
  c3 : C[3]? = some (.int .i64 (x.whole : Int))
  c4 : C[4]? = some (.int .i64 (x.torn : Int))
  c5 : C[5]? = some (.int .i64 (x.writes : Int))
  ct : ∀ j, j < 64 → C[6 + j]? = some (.int .i64 (x.tr j : Int))
structure SBox (n : Nat) (b : Nat → UInt8) (R : Array Value) : Prop where
  size : R.size = 512 * n
  at' : ∀ k, k < 512 * n → R[k]? = some (B (b k))
/-- A disk in memory. -/
structure DM (L p s : Nat) (x : DV) (w : World) : Prop where
  box : ∃ C, Blk w p C 78 ∧ DBox x s C
  sec : ∃ R, Blk w s R 89 ∧ SBox x.n x.b R
  lo : L ≤ p ∧ L ≤ s
  nb : 1 ≤ x.n ∧ x.n ≤ 65536
def down (p s k : Nat) : Prop := k = p ∨ k = s
section
variable {L p s : Nat} {x : DV} {w w' : World}
theorem DM.ne (h : DM L p s x w) : p ≠ s := by
  obtain ⟨C, h1, _⟩ := h.box
  obtain ⟨R, h2, _⟩ := h.sec
  exact Blk.ne_t h1 h2 (by decide)
theorem DM.lt (h : DM L p s x w) {k : Nat} (hk : down p s k) : L ≤ k ∧ k < w.heap.size := by
  obtain ⟨C, h1, _⟩ := h.box
  obtain ⟨R, h2, _⟩ := h.sec
  rcases hk with rfl | rfl
  · exact ⟨h.lo.1, h1.lt⟩
  · exact ⟨h.lo.2, h2.lt⟩
theorem DM.keep (h : DM L p s x w) {S : Nat → Prop} (hc : Chg S w w') (hS : ∀ k, down p s k → ¬ S k) : DM L p s x w' := by
  obtain ⟨C, h1, h1'⟩ := h.box
  obtain ⟨R, h2, h2'⟩ := h.sec
  exact ⟨⟨C, hc.blk h1 (hS p (.inl rfl)), h1'⟩, ⟨R, hc.blk h2 (hS s (.inr rfl)), h2'⟩, h.lo, h.nb⟩
theorem DM.more (h : DM L p s x w) (hb : Below w.heap.size w w') : DM L p s x w' := h.keep (Chg.ofBelow (fun _ => False) hb) (fun _ _ e => e)
theorem DM.drew (h : DM L p s x w) (q : Nat) : DM L p s x (w.drewN q) := h.keep ((Chg.refl (fun _ => False) w).drewN q) (fun _ _ e => e)
theorem DM.k0 (h : DM L p s x w) : w.cell? ⟨p, 0, none⟩ = some (.slice (some ⟨s, 0, none⟩) x.n x.n) := by obtain ⟨C, h1, h2⟩ := h.box; rw [h1.cell]; exact h2.c0
theorem DM.k1 (h : DM L p s x w) : w.cell? ⟨p, 1, none⟩ = some (.bool x.off) := by obtain ⟨C, h1, h2⟩ := h.box; rw [h1.cell]; exact h2.c1
theorem DM.k2 (h : DM L p s x w) : w.cell? ⟨p, 2, none⟩ = some (.bool x.armed) := by obtain ⟨C, h1, h2⟩ := h.box; rw [h1.cell]; exact h2.c2
theorem DM.k3 (h : DM L p s x w) : w.cell? ⟨p, 3, none⟩ = some (.int .i64 (x.whole : Int)) := by obtain ⟨C, h1, h2⟩ := h.box; rw [h1.cell]; exact h2.c3
theorem DM.k4 (h : DM L p s x w) : w.cell? ⟨p, 4, none⟩ = some (.int .i64 (x.torn : Int)) := by obtain ⟨C, h1, h2⟩ := h.box; rw [h1.cell]; exact h2.c4
theorem DM.k5 (h : DM L p s x w) : w.cell? ⟨p, 5, none⟩ = some (.int .i64 (x.writes : Int)) := by obtain ⟨C, h1, h2⟩ := h.box; rw [h1.cell]; exact h2.c5
theorem DM.kt (h : DM L p s x w) (j : Nat) (hj : j < 64) : w.cell? ⟨p, 6 + j, none⟩ = some (.int .i64 (x.tr j : Int)) := by obtain ⟨C, h1, h2⟩ := h.box; rw [h1.cell]; exact h2.ct j hj
theorem DM.fz (h : DM L p s x w) (j : Nat) : w.frozen? ⟨p, j, none⟩ = false := by obtain ⟨C, h1, h2⟩ := h.box; exact h1.frozen j
theorem DM.setBox (h : DM L p s x w) (j : Nat) (v : Value) {y : DV} (hn : y.n = x.n) (hb : y.b = x.b) (hC : ∀ C, DBox x s C → DBox y s (C.setIfInBounds j v)) : DM L p s y (w.setCell ⟨p, j, none⟩ v) := by
  obtain ⟨C, h1, h1'⟩ := h.box
  obtain ⟨R, h2, h2'⟩ := h.sec
  refine ⟨⟨_, h1.set j v, hC C h1'⟩, ⟨R, (setCell_chg w p j v).blk h2 (fun e => h.ne e.symm), by rw [hn, hb]; exact h2'⟩, h.lo, by rw [hn]; exact h.nb⟩
theorem DBox.setOff {C : Array Value} (h : DBox x s C) (o : Bool) : DBox { x with off := o } s (C.setIfInBounds 1 (.bool o)) :=
  ⟨by simp [h.size], by simp [h.c0], by simp [h.size], by simp [h.c2], by simp [h.c3], by simp [h.c4], by simp [h.c5], fun j hj => by rw [Array.getElem?_setIfInBounds_ne (by omega)]; exact h.ct j hj⟩
theorem DBox.setArmed {C : Array Value} (h : DBox x s C) (o : Bool) : DBox { x with armed := o } s (C.setIfInBounds 2 (.bool o)) :=
  ⟨by simp [h.size], by simp [h.c0], by simp [h.c1], by simp [h.size], by simp [h.c3], by simp [h.c4], by simp [h.c5], fun j hj => by rw [Array.getElem?_setIfInBounds_ne (by omega)]; exact h.ct j hj⟩
theorem DBox.setWhole {C : Array Value} (h : DBox x s C) (o : Nat) : DBox { x with whole := o } s (C.setIfInBounds 3 (.int .i64 (o : Int))) :=
  ⟨by simp [h.size], by simp [h.c0], by simp [h.c1], by simp [h.c2], by simp [h.size], by simp [h.c4], by simp [h.c5], fun j hj => by rw [Array.getElem?_setIfInBounds_ne (by omega)]; exact h.ct j hj⟩
theorem DBox.setTorn {C : Array Value} (h : DBox x s C) (o : Nat) : DBox { x with torn := o } s (C.setIfInBounds 4 (.int .i64 (o : Int))) :=
  ⟨by simp [h.size], by simp [h.c0], by simp [h.c1], by simp [h.c2], by simp [h.c3], by simp [h.size], by simp [h.c5], fun j hj => by rw [Array.getElem?_setIfInBounds_ne (by omega)]; exact h.ct j hj⟩
theorem DBox.setWrites {C : Array Value} (h : DBox x s C) (o : Nat) : DBox { x with writes := o } s (C.setIfInBounds 5 (.int .i64 (o : Int))) :=
  ⟨by simp [h.size], by simp [h.c0], by simp [h.c1], by simp [h.c2], by simp [h.c3], by simp [h.c4], by simp [h.size], fun j hj => by rw [Array.getElem?_setIfInBounds_ne (by omega)]; exact h.ct j hj⟩
theorem DBox.setTr {C : Array Value} (h : DBox x s C) (i o : Nat) (hi : i < 64) : DBox { x with tr := fun j => if j = i then o else x.tr j } s (C.setIfInBounds (6 + i) (.int .i64 (o : Int))) := by
  have hs := h.size
  refine ⟨by simp [h.size], ?_, ?_, ?_, ?_, ?_, ?_, fun j hj => ?_⟩
  · rw [Array.getElem?_setIfInBounds_ne (by omega)]; exact h.c0
  · rw [Array.getElem?_setIfInBounds_ne (by omega)]; exact h.c1
  · rw [Array.getElem?_setIfInBounds_ne (by omega)]; exact h.c2
  · rw [Array.getElem?_setIfInBounds_ne (by omega)]; exact h.c3
  · rw [Array.getElem?_setIfInBounds_ne (by omega)]; exact h.c4
  · rw [Array.getElem?_setIfInBounds_ne (by omega)]; exact h.c5
  · by_cases e : j = i
    · subst e
      rw [Array.getElem?_setIfInBounds_self_of_lt (by omega)]
      simp
    · rw [Array.getElem?_setIfInBounds_ne (by omega), h.ct j hj]
      simp [e]
end
/-- Why a sector can't be come at. -/
def reachE (x : DV) (i : Int) : Int := if x.off = true then 200 else if i < 0 ∨ (x.n : Int) ≤ i then 201 else 0
set_option maxRecDepth 100000 in
set_option maxHeartbeats 800000 in
theorem reach_any {L p s : Nat} {x : DV} (i : Int) (w : World) (h : DM L p s x w) : Calls Try.prog 51 #[.pointer (some ⟨p, 0, none⟩), .int .i64 i] w fun e w' => e = .returned (.int .i64 (reachE x i)) ∧ w' = w := by
  have c0 := h.k0
  have c1 := h.k1
  obtain ⟨hn1, hn2⟩ := h.nb
  unfold reachE
  cases ho : x.off with
  | true =>
    rw [ho] at c1
    clear h
    go_enter Try.func51, Try.ntmps51
    go_wp2_with fail
    go_ret
    exact ⟨by simp, rfl⟩
  | false =>
    rw [ho] at c1
    clear h
    by_cases h1 : i < 0
    · go_enter Try.func51, Try.ntmps51
      go_wp2_with fail
      go_ret
      exact ⟨by simp [h1], rfl⟩
    · by_cases h2 : (x.n : Int) ≤ i
      · go_enter Try.func51, Try.ntmps51
        go_wp2_with fail
        go_ret
        exact ⟨by simp [h2], rfl⟩
      · go_enter Try.func51, Try.ntmps51
        go_wp2_with fail
        go_ret
        exact ⟨by simp [h1, h2], rfl⟩
/-- What a copy of bytes does. -/
theorem splice_get (l cs : List Value) (o j : Nat) (h : o + cs.length ≤ l.length) : (l.take o ++ cs ++ l.drop (o + cs.length)).toArray[j]? = if o ≤ j ∧ j < o + cs.length then cs[j - o]? else l[j]? := by
  simp only [List.getElem?_toArray]
  by_cases h1 : j < o
  · rw [if_neg (by omega), List.append_assoc, List.getElem?_append_left (by simp; omega), List.getElem?_take, if_pos h1]
  · by_cases h2 : j < o + cs.length
    · rw [if_pos (by omega), List.getElem?_append_left (by simp; omega), List.getElem?_append_right (by simp; omega)]
      congr 1
      simp
      omega
    · rw [if_neg (by omega), List.getElem?_append_right (by simp; omega), List.getElem?_drop]
      congr 1
      simp
      omega
theorem copy_by {w : World} {g o dLen dCap T : Nat} {cur : Array Value} {v : Value} {bs : List UInt8} (hB : Blk w g cur T) (hby : By w v bs) (hk : o + min bs.length dLen ≤ cur.size) :
    ∃ w', (Builtin.copy_ #[38, 38] 3 #[.slice (some ⟨g, o, none⟩) dLen dCap, v]).run Try.prog w = .ok (.int .i64 ((min bs.length dLen : Nat) : Int)) w' ∧ (∃ cur', Blk w' g cur' T ∧ cur'.size = cur.size ∧ ∀ j, cur'[j]? = if o ≤ j ∧ j < o + min bs.length dLen then some (B (bs.getD (j - o) 0)) else cur[j]?) ∧ Chg (fun k => k = g) w w' := by
  obtain ⟨ao, k, c, rfl, hbk, h0, hc⟩ := hby
  subst hbk
  have size5 : (Try.prog.info? 5).map (·.size) = some 1 := by kernel_rfl
  by_cases hz : min bs.length dLen = 0
  · refine ⟨w, ?_, ⟨cur, hB, rfl, fun j => ?_⟩, Chg.refl _ _⟩
    · rw [hz]
      exact run_copy_none (P := Try.prog) w 38 38 3 5 _ ao dLen dCap bs.length c Try.underlying38 size5 (by simpa [Nat.min_def] using hz)
    · rw [hz, if_neg (by omega)]
  · cases ao with
    | none => have := (h0 rfl).1; omega
    | some ad =>
      have hl : ((bs.take (min bs.length dLen)).map B).length = min bs.length dLen := by rw [List.length_map, List.length_take]; omega
      have hrun := run_copy_row (P := Try.prog) w 38 38 3 5 g o dLen dCap ad bs.length c cur T ((bs.take (min bs.length dLen)).map B) Try.underlying38 size5 hB (by rw [hl]) (fun j u hu => by
        rw [List.map_take, List.getElem?_take] at hu
        split at hu
        · exact hc ad rfl j u hu
        · cases hu) (by rw [hl]; exact hk) (oneB _)
      rw [hl] at hrun
      have hsz : o + ((bs.take (min bs.length dLen)).map B).length ≤ cur.toList.length := by rw [hl]; simpa using hk
      refine ⟨_, hrun, ⟨(cur.toList.take o ++ (bs.take (min bs.length dLen)).map B ++ cur.toList.drop (o + min bs.length dLen)).toArray, ?_, ?_, fun j => ?_⟩, ?_⟩
      · exact setRow_heap w g cur _ T (0, 0) hB
      · simp
        omega
      · have := splice_get cur.toList ((bs.take (min bs.length dLen)).map B) o j hsz
        rw [hl] at this
        rw [this]
        split
        · rename_i hj
          rw [List.getElem?_map, List.getElem?_take, if_pos (by omega), List.getD_eq_getElem?_getD, List.getElem?_eq_getElem (show j - o < bs.length by omega)]
          rfl
        · simp
      · refine ⟨rfl, rfl, rfl, by simp [World.setRow], fun k hk hn => ?_⟩
        simp [World.setRow, Array.getElem?_modify]
        intro e
        exact absurd e.symm hn
end Go.Proofs.Ytjpdcahodmomgaa
