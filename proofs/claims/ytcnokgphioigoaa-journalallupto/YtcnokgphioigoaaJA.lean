import Derived.Test.YtcnokgphioigoaaDk0
import Derived.Laws.CopyRow
import Derived.Laws.IdiomCopy
import Derived.Laws.MakeOwn
namespace Go.Proofs.Ytcnokgphioigoaa
open Go.RowKit Go.PlainAid
set_option linter.unusedVariables false
set_option linter.unusedSimpArgs false
/-- A disk's values. -/
structure DV where
  n : Nat
  b : Nat → UInt8
  off : Bool
  armed : Bool
  whole : Nat
  torn : Nat
  writes : Nat
  tr : Nat → Nat
structure DBox (x : DV) (s : Nat) (C : Array Value) : Prop where
  size : C.size = 70
  c0 : C[0]? = some (.slice (some ⟨s, 0, none⟩) x.n x.n)
  c1 : C[1]? = some (.bool x.off)
  c2 : C[2]? = some (.bool x.armed)
  c3 : C[3]? = some (.int .i64 (x.whole : Int))
  c4 : C[4]? = some (.int .i64 (x.torn : Int))
  c5 : C[5]? = some (.int .i64 (x.writes : Int))
  ct : ∀ j, j < 64 → C[6 + j]? = some (.int .i64 (x.tr j : Int))
structure SBox (n : Nat) (b : Nat → UInt8) (R : Array Value) : Prop where
  size : R.size = 512 * n
  at' : ∀ k, k < 512 * n → R[k]? = some (B (b k))
/-- A disk in memory. -/
structure DM (L p s : Nat) (x : DV) (w : World) : Prop where
  box : ∃ C, Blk w p C 77 ∧ DBox x s C
  sec : ∃ R, Blk w s R 88 ∧ SBox x.n x.b R
  lo : L ≤ p ∧ L ≤ s
  nb : 1 ≤ x.n ∧ x.n ≤ 65536
def down (p s k : Nat) : Prop := k = p ∨ k = s
section
variable {L p s : Nat} {x : DV} {w w' : World}
theorem DM.ne (h : DM L p s x w) : p ≠ s := by
  obtain ⟨C, h1, _⟩ := h.box
  obtain ⟨R, h2, _⟩ := h.sec
  exact Blk.ne_t h1 h2 (by decide)
theorem DM.lt (h : DM L p s x w) {k : Nat} (hk : down p s k) : L ≤ k ∧ k < w.heap.size := by
  obtain ⟨C, h1, _⟩ := h.box
  obtain ⟨R, h2, _⟩ := h.sec
  rcases hk with rfl | rfl
  · exact ⟨h.lo.1, h1.lt⟩
  · exact ⟨h.lo.2, h2.lt⟩
theorem DM.keep (h : DM L p s x w) {S : Nat → Prop} (hc : Chg S w w') (hS : ∀ k, down p s k → ¬ S k) : DM L p s x w' := by
  obtain ⟨C, h1, h1'⟩ := h.box
  obtain ⟨R, h2, h2'⟩ := h.sec
  exact ⟨⟨C, hc.blk h1 (hS p (.inl rfl)), h1'⟩, ⟨R, hc.blk h2 (hS s (.inr rfl)), h2'⟩, h.lo, h.nb⟩
theorem DM.more (h : DM L p s x w) (hb : Below w.heap.size w w') : DM L p s x w' := h.keep (Chg.ofBelow (fun _ => False) hb) (fun _ _ e => e)
theorem DM.drew (h : DM L p s x w) (q : Nat) : DM L p s x (w.drewN q) := h.keep ((Chg.refl (fun _ => False) w).drewN q) (fun _ _ e => e)
theorem DM.k0 (h : DM L p s x w) : w.cell? ⟨p, 0, none⟩ = some (.slice (some ⟨s, 0, none⟩) x.n x.n) := by obtain ⟨C, h1, h2⟩ := h.box; rw [h1.cell]; exact h2.c0
theorem DM.k1 (h : DM L p s x w) : w.cell? ⟨p, 1, none⟩ = some (.bool x.off) := by obtain ⟨C, h1, h2⟩ := h.box; rw [h1.cell]; exact h2.c1
theorem DM.k2 (h : DM L p s x w) : w.cell? ⟨p, 2, none⟩ = some (.bool x.armed) := by obtain ⟨C, h1, h2⟩ := h.box; rw [h1.cell]; exact h2.c2
theorem DM.k3 (h : DM L p s x w) : w.cell? ⟨p, 3, none⟩ = some (.int .i64 (x.whole : Int)) := by obtain ⟨C, h1, h2⟩ := h.box; rw [h1.cell]; exact h2.c3
theorem DM.k4 (h : DM L p s x w) : w.cell? ⟨p, 4, none⟩ = some (.int .i64 (x.torn : Int)) := by obtain ⟨C, h1, h2⟩ := h.box; rw [h1.cell]; exact h2.c4
theorem DM.k5 (h : DM L p s x w) : w.cell? ⟨p, 5, none⟩ = some (.int .i64 (x.writes : Int)) := by obtain ⟨C, h1, h2⟩ := h.box; rw [h1.cell]; exact h2.c5
theorem DM.kt (h : DM L p s x w) (j : Nat) (hj : j < 64) : w.cell? ⟨p, 6 + j, none⟩ = some (.int .i64 (x.tr j : Int)) := by obtain ⟨C, h1, h2⟩ := h.box; rw [h1.cell]; exact h2.ct j hj
theorem DM.fz (h : DM L p s x w) (j : Nat) : w.frozen? ⟨p, j, none⟩ = false := by obtain ⟨C, h1, h2⟩ := h.box; exact h1.frozen j
theorem DM.setBox (h : DM L p s x w) (j : Nat) (v : Value) {y : DV} (hn : y.n = x.n) (hb : y.b = x.b) (hC : ∀ C, DBox x s C → DBox y s (C.setIfInBounds j v)) : DM L p s y (w.setCell ⟨p, j, none⟩ v) := by
  obtain ⟨C, h1, h1'⟩ := h.box
  obtain ⟨R, h2, h2'⟩ := h.sec
  refine ⟨⟨_, h1.set j v, hC C h1'⟩, ⟨R, (setCell_chg w p j v).blk h2 (fun e => h.ne e.symm), by rw [hn, hb]; exact h2'⟩, h.lo, by rw [hn]; exact h.nb⟩
theorem DBox.setOff {C : Array Value} (h : DBox x s C) (o : Bool) : DBox { x with off := o } s (C.setIfInBounds 1 (.bool o)) :=
  ⟨by simp [h.size], by simp [h.c0], by simp [h.size], by simp [h.c2], by simp [h.c3], by simp [h.c4], by simp [h.c5], fun j hj => by rw [Array.getElem?_setIfInBounds_ne (by omega)]; exact h.ct j hj⟩
theorem DBox.setArmed {C : Array Value} (h : DBox x s C) (o : Bool) : DBox { x with armed := o } s (C.setIfInBounds 2 (.bool o)) :=
  ⟨by simp [h.size], by simp [h.c0], by simp [h.c1], by simp [h.size], by simp [h.c3], by simp [h.c4], by simp [h.c5], fun j hj => by rw [Array.getElem?_setIfInBounds_ne (by omega)]; exact h.ct j hj⟩
theorem DBox.setWhole {C : Array Value} (h : DBox x s C) (o : Nat) : DBox { x with whole := o } s (C.setIfInBounds 3 (.int .i64 (o : Int))) :=
  ⟨by simp [h.size], by simp [h.c0], by simp [h.c1], by simp [h.c2], by simp [h.size], by simp [h.c4], by simp [h.c5], fun j hj => by rw [Array.getElem?_setIfInBounds_ne (by omega)]; exact h.ct j hj⟩
theorem DBox.setTorn {C : Array Value} (h : DBox x s C) (o : Nat) : DBox { x with torn := o } s (C.setIfInBounds 4 (.int .i64 (o : Int))) :=
  ⟨by simp [h.size], by simp [h.c0], by simp [h.c1], by simp [h.c2], by simp [h.c3], by simp [h.size], by simp [h.c5], fun j hj => by rw [Array.getElem?_setIfInBounds_ne (by omega)]; exact h.ct j hj⟩
theorem DBox.setWrites {C : Array Value} (h : DBox x s C) (o : Nat) : DBox { x with writes := o } s (C.setIfInBounds 5 (.int .i64 (o : Int))) :=
  ⟨by simp [h.size], by simp [h.c0], by simp [h.c1], by simp [h.c2], by simp [h.c3], by simp [h.c4], by simp [h.size], fun j hj => by rw [Array.getElem?_setIfInBounds_ne (by omega)]; exact h.ct j hj⟩
theorem DBox.setTr {C : Array Value} (h : DBox x s C) (i o : Nat) (hi : i < 64) : DBox { x with tr := fun j => if j = i then o else x.tr j } s (C.setIfInBounds (6 + i) (.int .i64 (o : Int))) := by
  have hs := h.size
  refine ⟨by simp [h.size], ?_, ?_, ?_, ?_, ?_, ?_, fun j hj => ?_⟩
  · rw [Array.getElem?_setIfInBounds_ne (by omega)]; exact h.c0
  · rw [Array.getElem?_setIfInBounds_ne (by omega)]; exact h.c1
  · rw [Array.getElem?_setIfInBounds_ne (by omega)]; exact h.c2
  · rw [Array.getElem?_setIfInBounds_ne (by omega)]; exact h.c3
  · rw [Array.getElem?_setIfInBounds_ne (by omega)]; exact h.c4
  · rw [Array.getElem?_setIfInBounds_ne (by omega)]; exact h.c5
  · by_cases e : j = i
    · subst e
      rw [Array.getElem?_setIfInBounds_self_of_lt (by omega)]
      simp
    · rw [Array.getElem?_setIfInBounds_ne (by omega), h.ct j hj]
      simp [e]
end
/-- Why a sector can't be come at. -/
def reachE (x : DV) (i : Int) : Int := if x.off = true then 200 else if i < 0 ∨ (x.n : Int) ≤ i then 201 else 0
set_option maxRecDepth 100000 in
set_option maxHeartbeats 800000 in
theorem reach_any {L p s : Nat} {x : DV} (i : Int) (w : World) (h : DM L p s x w) : Calls Try.prog 48 #[.pointer (some ⟨p, 0, none⟩), .int .i64 i] w fun e w' => e = .returned (.int .i64 (reachE x i)) ∧ w' = w := by
  have c0 := h.k0
  have c1 := h.k1
  obtain ⟨hn1, hn2⟩ := h.nb
  unfold reachE
  cases ho : x.off with
  | true =>
    rw [ho] at c1
    clear h
    go_enter Try.func48, Try.ntmps48
    go_wp2_with fail
    go_ret
    exact ⟨by simp, rfl⟩
  | false =>
    rw [ho] at c1
    clear h
    by_cases h1 : i < 0
    · go_enter Try.func48, Try.ntmps48
      go_wp2_with fail
      go_ret
      exact ⟨by simp [h1], rfl⟩
    · by_cases h2 : (x.n : Int) ≤ i
      · go_enter Try.func48, Try.ntmps48
        go_wp2_with fail
        go_ret
        exact ⟨by simp [h2], rfl⟩
      · go_enter Try.func48, Try.ntmps48
        go_wp2_with fail
        go_ret
        exact ⟨by simp [h1, h2], rfl⟩
/-- What a copy of bytes does. -/
theorem splice_get (l cs : List Value) (o j : Nat) (h : o + cs.length ≤ l.length) : (l.take o ++ cs ++ l.drop (o + cs.length)).toArray[j]? = if o ≤ j ∧ j < o + cs.length then cs[j - o]? else l[j]? := by
  simp only [List.getElem?_toArray]
  by_cases h1 : j < o
  · rw [if_neg (by omega), List.append_assoc, List.getElem?_append_left (by simp; omega), List.getElem?_take, if_pos h1]
  · by_cases h2 : j < o + cs.length
    · rw [if_pos (by omega), List.getElem?_append_left (by simp; omega), List.getElem?_append_right (by simp; omega)]
      congr 1
      simp
      omega
    · rw [if_neg (by omega), List.getElem?_append_right (by simp; omega), List.getElem?_drop]
      congr 1
      simp
      omega
theorem copy_by {w : World} {g o dLen dCap T : Nat} {cur : Array Value} {v : Value} {bs : List UInt8} (hB : Blk w g cur T) (hby : By w v bs) (hk : o + min bs.length dLen ≤ cur.size) :
    ∃ w', (Builtin.copy_ #[38, 38] 3 #[.slice (some ⟨g, o, none⟩) dLen dCap, v]).run Try.prog w = .ok (.int .i64 ((min bs.length dLen : Nat) : Int)) w' ∧ (∃ cur', Blk w' g cur' T ∧ cur'.size = cur.size ∧ ∀ j, cur'[j]? = if o ≤ j ∧ j < o + min bs.length dLen then some (B (bs.getD (j - o) 0)) else cur[j]?) ∧ Chg (fun k => k = g) w w' := by
  obtain ⟨ao, k, c, rfl, hbk, h0, hc⟩ := hby
  subst hbk
  have size5 : (Try.prog.info? 5).map (·.size) = some 1 := by kernel_rfl
  by_cases hz : min bs.length dLen = 0
  · refine ⟨w, ?_, ⟨cur, hB, rfl, fun j => ?_⟩, Chg.refl _ _⟩
    · rw [hz]
      exact run_copy_none (P := Try.prog) w 38 38 3 5 _ ao dLen dCap bs.length c Try.underlying38 size5 (by simpa [Nat.min_def] using hz)
    · rw [hz, if_neg (by omega)]
  · cases ao with
    | none => have := (h0 rfl).1; omega
    | some ad =>
      have hl : ((bs.take (min bs.length dLen)).map B).length = min bs.length dLen := by rw [List.length_map, List.length_take]; omega
      have hrun := run_copy_row (P := Try.prog) w 38 38 3 5 g o dLen dCap ad bs.length c cur T ((bs.take (min bs.length dLen)).map B) Try.underlying38 size5 hB (by rw [hl]) (fun j u hu => by
        rw [List.map_take, List.getElem?_take] at hu
        split at hu
        · exact hc ad rfl j u hu
        · cases hu) (by rw [hl]; exact hk) (oneB _)
      rw [hl] at hrun
      have hsz : o + ((bs.take (min bs.length dLen)).map B).length ≤ cur.toList.length := by rw [hl]; simpa using hk
      refine ⟨_, hrun, ⟨(cur.toList.take o ++ (bs.take (min bs.length dLen)).map B ++ cur.toList.drop (o + min bs.length dLen)).toArray, ?_, ?_, fun j => ?_⟩, ?_⟩
      · exact setRow_heap w g cur _ T (0, 0) hB
      · simp
        omega
      · have := splice_get cur.toList ((bs.take (min bs.length dLen)).map B) o j hsz
        rw [hl] at this
        rw [this]
        split
        · rename_i hj
          rw [List.getElem?_map, List.getElem?_take, if_pos (by omega), List.getD_eq_getElem?_getD, List.getElem?_eq_getElem (show j - o < bs.length by omega)]
          rfl
        · simp
      · refine ⟨rfl, rfl, rfl, by simp [World.setRow], fun k hk hn => ?_⟩
        simp [World.setRow, Array.getElem?_modify]
        intro e
        exact absurd e.symm hn
end Go.Proofs.Ytcnokgphioigoaa
namespace Go.Proofs.Ytcnokgphioigoaa
open Go.RowKit Go.PlainAid
set_option linter.unusedVariables false
set_option linter.unusedSimpArgs false
section
variable {L p s : Nat} {x : DV}
set_option maxRecDepth 100000 in
theorem isOn_any (w : World) (h : DM L p s x w) : Calls Try.prog 33 #[.pointer (some ⟨p, 0, none⟩)] w fun e w' => e = .returned (.bool (!x.off)) ∧ w' = w := by
  have c := h.k1
  clear h
  go_enter Try.func33, Try.ntmps33
  go_wp2_with fail
  go_ret
  exact ⟨rfl, rfl⟩
set_option maxRecDepth 100000 in
theorem writes_any (w : World) (h : DM L p s x w) : Calls Try.prog 26 #[.pointer (some ⟨p, 0, none⟩)] w fun e w' => e = .returned (.int .i64 (x.writes : Int)) ∧ w' = w := by
  have c := h.k5
  clear h
  go_enter Try.func26, Try.ntmps26
  go_wp2_with fail
  go_ret
  exact ⟨rfl, rfl⟩
set_option maxRecDepth 100000 in
theorem sectors_any (w : World) (h : DM L p s x w) : Calls Try.prog 34 #[.pointer (some ⟨p, 0, none⟩)] w fun e w' => e = .returned (.int .i64 (x.n : Int)) ∧ w' = w := by
  have c := h.k0
  clear h
  go_enter Try.func34, Try.ntmps34
  go_wp2_with fail
  go_ret
  exact ⟨rfl, rfl⟩
set_option maxRecDepth 100000 in
theorem on_any (w : World) (h : DM L p s x w) : Calls Try.prog 41 #[.pointer (some ⟨p, 0, none⟩)] w fun e w' => e = .returned (.tuple #[]) ∧ DM L p s { x with off := false } w' ∧ Chg (fun k => k = p) w w' := by
  have c := h.k1
  have f := h.fz 1
  have HD : Hid (DM L p s { x with off := false } (w.setCell ⟨p, 1, none⟩ (.bool false))) := h.setBox 1 (.bool false) rfl rfl fun C hC => hC.setOff false
  clear h
  go_enter Try.func41, Try.ntmps41
  go_wp2_with fail
  refine bodyPost_end (results_none rfl _ _ _) rfl ?_
  exact ⟨rfl, HD.out, setCell_chg _ _ _ _⟩
def DV.offed (x : DV) : DV := { x with off := true, armed := false, whole := 0, torn := 0 }
set_option maxRecDepth 100000 in
set_option maxHeartbeats 800000 in
theorem off_any (w : World) (h : DM L p s x w) : Calls Try.prog 61 #[.pointer (some ⟨p, 0, none⟩)] w fun e w' => e = .returned (.tuple #[]) ∧ DM L p s x.offed w' ∧ Chg (fun k => k = p) w w' := by
  have c := h.k1
  have f := h.fz 1
  have c2 := h.k2
  have c3 := h.k3
  have c4 := h.k4
  have f2 := h.fz 2
  have f3 := h.fz 3
  have f4 := h.fz 4
  have h1 : DM L p s { x with off := true } (w.setCell ⟨p, 1, none⟩ (.bool true)) := h.setBox 1 (.bool true) rfl rfl fun C hC => hC.setOff true
  have h2 := h1.setBox (y := { x with off := true, armed := false }) 2 (.bool false) rfl rfl fun C hC => hC.setArmed false
  have h3 := h2.setBox (y := { x with off := true, armed := false, whole := 0 }) 3 (.int .i64 ((0 : Nat) : Int)) rfl rfl fun C hC => hC.setWhole 0
  have HD : Hid _ := h3.setBox (y := x.offed) 4 (.int .i64 ((0 : Nat) : Int)) rfl rfl fun C hC => hC.setTorn 0
  clear h h1 h2 h3
  go_enter Try.func61, Try.ntmps61
  go_wp2_with fail
  refine bodyPost_end (results_none rfl _ _ _) rfl ?_
  exact ⟨rfl, HD.out, ((((Chg.refl _ w).trans (setCell_chg _ _ _ _) (fun _ _ e => e)).trans (setCell_chg _ _ _ _) (fun _ _ e => e)).trans (setCell_chg _ _ _ _) (fun _ _ e => e)).trans (setCell_chg _ _ _ _) (fun _ _ e => e)⟩
def DV.noted (x : DV) (i : Nat) : DV := { x with writes := x.writes + 1, tr := fun j => if j = x.writes % 64 then i else x.tr j }
set_option maxRecDepth 100000 in
set_option maxHeartbeats 1600000 in
theorem note_any (i : Nat) (w : World) (h : DM L p s x w) (hw : x.writes ≤ 1000000000000000000) : Calls Try.prog 63 #[.pointer (some ⟨p, 0, none⟩), .int .i64 (i : Int)] w fun e w' => e = .returned (.tuple #[]) ∧ DM L p s (x.noted i) w' ∧ Chg (fun k => k = p) w w' := by
  have c5 := h.k5
  have f5 := h.fz 5
  have ct := h.kt (x.writes % 64) (by omega)
  have ft := h.fz (6 + x.writes % 64)
  obtain ⟨m, hm⟩ : ∃ m, m = x.writes % 64 := ⟨_, rfl⟩
  have hm64 : m < 64 := by omega
  have HM : Hid (m = x.writes % 64) := hm
  have hmr : ((x.writes : Int)).tmod 64 = (m : Int) := by rw [Int.tmod_eq_emod_of_nonneg (by omega)]; omega
  have h1 : DM L p s { x with tr := fun j => if j = m then i else x.tr j } (w.setCell ⟨p, 6 + m, none⟩ (.int .i64 (i : Int))) := h.setBox (6 + m) _ rfl rfl fun C hC => hC.setTr m i hm64
  have h2 := h1.setBox (y := x.noted i) 5 (.int .i64 ((x.writes + 1 : Nat) : Int)) rfl rfl fun C hC => by
    have := hC.setWrites (x.writes + 1)
    unfold DV.noted
    rw [← hm]
    exact this
  have HD : Hid _ := h2
  rw [← hm] at ct ft
  have hne : ¬ (6 + m = 5) := by omega
  clear h h1 h2 hm
  go_enter Try.func63, Try.ntmps63
  go_wp2_with fail
  go_region
  go_wp2_with fail
  refine bodyPost_end (results_none rfl _ _ _) rfl ?_
  exact ⟨rfl, HD.out.drew _, (((Chg.refl _ w).trans (setCell_chg _ _ _ _) (fun _ _ e => e)).trans (setCell_chg _ _ _ _) (fun _ _ e => e)).drewN 1⟩
end
end Go.Proofs.Ytcnokgphioigoaa
namespace Go.Proofs.Ytcnokgphioigoaa
open Go.RowKit Go.PlainAid
set_option linter.unusedVariables false
set_option linter.unusedSimpArgs false
theorem made_at (z : Array Value) (v : Value) (n : Nat) (hz : 0 < z.size) (h : ∀ j, j < z.size → z[j]! = v) (j : Nat) (hj : j < n) : (madeCells z n)[j]? = some v := by
  unfold madeCells
  rw [Array.getElem?_map, Array.getElem?_range, if_pos hj]
  simp only [Option.map_some]
  rw [h _ (Nat.mod_lt _ hz)]
theorem mk_bytes (n : Nat) (hn : n ≤ 281474976710656) (w : World) : ∃ R, (Instr.makeSlice 38 (.int .i64 (n : Int)) (.int .i64 (n : Int))).run Try.prog w = .ok (.slice (some ⟨w.heap.size, 0, none⟩) n n) (w.alloc (.cells R 5)) ∧ R.size = n ∧ ∀ j, j < n → R[j]? = some (B 0) := by
  obtain ⟨i0, hi, hz, hs, hb⟩ := info_parts info5'
  have h := run_make (P := Try.prog) w 38 5 i0 _ Try.underlying38 hi hz .i64 .i64 (n : Int) (n : Int) (by omega) (Int.le_refl _) (by rw [hb]; omega) (by omega)
  rw [Int.toNat_natCast, hs, Nat.mul_one] at h
  refine ⟨_, h, size_madeCells _ _, fun j hj => ?_⟩
  refine made_at _ _ n (by decide) (fun j hj => ?_) j hj
  obtain rfl : j = 0 := by simp [Value.cells] at hj; omega
  rfl
theorem mk_ints (n : Nat) (hn : n ≤ 1000) (w : World) : ∃ R, (Instr.makeSlice 24 (.int .i64 (n : Int)) (.int .i64 (n : Int))).run Try.prog w = .ok (.slice (some ⟨w.heap.size, 0, none⟩) n n) (w.alloc (.cells R 3)) ∧ R.size = n ∧ ∀ j, j < n → R[j]? = some (.int .i64 0) := by
  obtain ⟨i0, hi, hz, hs, hb⟩ := info_parts info3
  have h := run_make (P := Try.prog) w 24 3 i0 _ Try.underlying24 hi hz .i64 .i64 (n : Int) (n : Int) (by omega) (Int.le_refl _) (by rw [hb]; omega) (by omega)
  rw [Int.toNat_natCast, hs, Nat.mul_one] at h
  refine ⟨_, h, size_madeCells _ _, fun j hj => ?_⟩
  refine made_at _ _ n (by decide) (fun j hj => ?_) j hj
  obtain rfl : j = 0 := by simp [Value.cells] at hj; omega
  rfl
def z77 : Value := .agg (Array.replicate 512 (.int .u8 0))
set_option maxRecDepth 100000 in
theorem info77 : (Try.prog.info? 88).map (fun i => (i.zero, i.size, i.bytes)) = some (some z77, 512, 512) := by kernel_rfl
set_option maxRecDepth 100000 in
theorem z77_size : z77.cells.size = 512 := by kernel_rfl
set_option maxRecDepth 100000 in
theorem z77_all : z77.cells.toList = List.replicate 512 (.int .u8 0) := by kernel_rfl
theorem mk_secs (n : Nat) (hn : n ≤ 65536) (w : World) : ∃ R, (Instr.makeSlice 72 (.int .i64 (n : Int)) (.int .i64 (n : Int))).run Try.prog w = .ok (.slice (some ⟨w.heap.size, 0, none⟩) n n) (w.alloc (.cells R 88)) ∧ SBox n (fun _ => 0) R := by
  obtain ⟨i0, hi, hz, hs, hb⟩ := info_parts info77
  have h := run_make (P := Try.prog) w 72 88 i0 _ Try.underlying72 hi hz .i64 .i64 (n : Int) (n : Int) (by omega) (Int.le_refl _) (by rw [hb]; omega) (by omega)
  rw [Int.toNat_natCast, hs] at h
  refine ⟨_, h, ⟨by rw [size_madeCells]; omega, fun j hj => ?_⟩⟩
  refine made_at _ _ _ (by rw [z77_size]; omega) (fun j hj => ?_) j (by omega)
  rw [z77_size] at hj
  have hl : z77.cells[j]? = some (.int .u8 0) := by
    rw [← Array.getElem?_toList, z77_all, List.getElem?_replicate, if_pos hj]
  rw [getElem!_def, hl]
  rfl
def fresh (n : Nat) : DV := ⟨n, fun _ => 0, false, false, 0, 0, 0, fun _ => 0⟩
set_option maxRecDepth 100000 in
theorem new_no (i : Int) (w : World) (h : i < 1 ∨ 65536 < i) : Calls Try.prog 13 #[.int .i64 i] w fun e w' => e = .returned (.tuple #[.pointer none, .int .i64 1]) ∧ w' = w := by
  by_cases h1 : i < 1
  · go_enter Try.func13, Try.ntmps13
    go_wp2_with fail
    go_ret2
    exact ⟨rfl, rfl⟩
  · have h2 : 65536 < i := by omega
    go_enter Try.func13, Try.ntmps13
    go_wp2_with fail
    go_ret2
    exact ⟨rfl, rfl⟩
def Z73 : Array Value := #[.slice none 0 0, .bool false, .bool false, .int .i64 0, .int .i64 0, .int .i64 0] ++ Array.replicate 64 (.int .i64 0)
set_option maxRecDepth 100000 in
theorem zero73 (w : World) : (zeroValue 77).run Try.prog w = .ok (.agg Z73) w := by kernel_rfl
theorem fresh_box (n s : Nat) : DBox (fresh n) s (Z73.setIfInBounds 0 (.slice (some ⟨s, 0, none⟩) n n)) := by
  refine ⟨rfl, rfl, rfl, rfl, rfl, rfl, rfl, fun j hj => ?_⟩
  rw [Array.getElem?_setIfInBounds_ne (by omega)]
  unfold Z73
  rw [Array.getElem?_append_right (by simp), Array.getElem?_replicate, if_pos (by simp; omega)]
  rfl
set_option maxRecDepth 100000 in
set_option maxHeartbeats 1600000 in
theorem new_yes (n : Nat) (w : World) (hn : 1 ≤ n ∧ n ≤ 65536) : Calls Try.prog 13 #[.int .i64 (n : Int)] w fun e w' => e = .returned (.tuple #[.pointer (some ⟨w.heap.size + 1, 0, none⟩), .int .i64 0]) ∧ DM w.heap.size (w.heap.size + 1) w.heap.size (fresh n) w' ∧ Below w.heap.size w w' := by
  obtain ⟨h1, h2⟩ := hn
  obtain ⟨R, hmk, hR⟩ := mk_secs n h2 w
  have HR : Hid (SBox n (fun _ => 0) R) := hR
  obtain ⟨Z, hZ⟩ : ∃ Z, Z = Z73 := ⟨_, rfl⟩
  have hz : ∀ w, (zeroValue 77).run Try.prog w = .ok (.agg Z) w := fun w => by rw [hZ]; exact zero73 w
  have hzn : ¬ (Z = #[]) := by rw [hZ]; simp [Z73]
  have HZ : Hid (Z = Z73) := hZ
  clear hR hZ
  go_enter Try.func13, Try.ntmps13
  go_wp2_with fail
  go_ret2
  have hb1 : Below w.heap.size w (w.alloc (.cells R 88)) := (Below.refl _ _).alloc (Nat.le_refl _) _
  have hnw := heap_alloc_new (w.alloc (.cells R 88)) (.cells (Z.setIfInBounds 0 (.slice (some ⟨w.heap.size, 0, none⟩) n n)) 77)
  rw [World.size_alloc] at hnw
  refine ⟨rfl, ⟨⟨Z.setIfInBounds 0 (.slice (some ⟨w.heap.size, 0, none⟩) n n), hnw, by rw [HZ.out]; exact fresh_box n _⟩, ⟨R, ?_, HR.out⟩, ⟨by omega, by omega⟩, h1, h2⟩, hb1.alloc hb1.size _⟩
  exact (Below.heap_alloc _ _ _ (by simp)).trans (heap_alloc_new w (.cells R 88))
/-- A sector's bytes. -/
def secL (b : Nat → UInt8) (i : Nat) : List UInt8 := (List.range 512).map fun j => b (i * 512 + j)
theorem secL_len (b : Nat → UInt8) (i : Nat) : (secL b i).length = 512 := by rw [secL, List.length_map, List.length_range]
theorem secL_get (b : Nat → UInt8) (i j : Nat) (h : j < 512) : (secL b i)[j]? = some (b (i * 512 + j)) := by rw [secL, List.getElem?_map, List.getElem?_range h]; rfl
theorem DM.bySec {L p s : Nat} {x : DV} {w : World} (h : DM L p s x w) (i : Nat) (hi : i < x.n) : By w (.slice (some ⟨s, i * 512, none⟩) 512 512) (secL x.b i) := by
  obtain ⟨R, h1, h2⟩ := h.sec
  refine ⟨_, _, _, rfl, secL_len _ _, (fun e => by cases e), fun ad e j u hu => ?_⟩
  cases e
  have hj : j < 512 := by
    have := (List.getElem?_eq_some_iff.1 hu).1
    rw [List.length_map, secL_len] at this
    exact this
  rw [List.getElem?_map, secL_get _ _ _ hj] at hu
  cases hu
  rw [addr_add, h1.cell]
  exact h2.at' _ (by omega)
/-- A row of bytes that is all one's own. -/
theorem own_blk {w : World} {L g n : Nat} {cur : Array Value} {bs : List UInt8} (h : Blk w g cur 5) (hL : L ≤ g) (hn : cur.size = n) (hm : n ≤ maxLen) (hb : ∀ j, j < n → cur[j]? = some (B (bs.getD j 0))) (hl : bs.length = n) : w.ownsRow L 5 1 (.slice (some ⟨g, 0, none⟩) n n) n (bs.map B) := by
  refine ⟨by simp [hl], Or.inr ⟨g, n, cur, rfl, hL, h, Nat.le_refl _, hm, by omega, ?_⟩⟩
  rw [Nat.mul_one, List.take_of_length_le (by simp [hn])]
  apply List.ext_getElem?
  intro j
  rw [Array.getElem?_toList, List.getElem?_map]
  by_cases hj : j < n
  · rw [hb j hj, List.getD_eq_getElem?_getD, List.getElem?_eq_getElem (by omega)]
    rfl
  · rw [Array.getElem?_eq_none (by omega), List.getElem?_eq_none (by omega)]
    rfl
section
variable {L p s : Nat} {x : DV}
set_option maxRecDepth 100000 in
set_option maxHeartbeats 800000 in
theorem read_no (i : Int) (w : World) (h : DM L p s x w) (hr : reachE x i ≠ 0) : Calls Try.prog 32 #[.pointer (some ⟨p, 0, none⟩), .int .i64 i] w fun e w' => e = .returned (.tuple #[.slice none 0 0, .int .i64 (reachE x i)]) ∧ w' = w := by
  have HR : Hid _ := reach_any i w h
  obtain ⟨e0, he0⟩ : ∃ e0, e0 = reachE x i := ⟨_, rfl⟩
  rw [← he0] at hr HR ⊢
  have hrb : (e0 == 0) = false := by simpa using hr
  have hrc : (e0 != 0) = true := by simpa using hr
  clear h he0
  go_enter Try.func32, Try.ntmps32
  go_wp2_with fail
  refine Calls.mono HR.out ?_
  rintro e w1 ⟨rfl, hw1⟩
  replace hw1 := hw1.symm
  subst hw1
  clear HR
  go_wp2_with fail
  go_ret2
  exact ⟨rfl, rfl⟩
set_option maxRecDepth 100000 in
set_option maxHeartbeats 1600000 in
theorem read_yes (i : Nat) (w : World) (h : DM L p s x w) (ho : x.off = false) (hi : i < x.n) : Calls Try.prog 32 #[.pointer (some ⟨p, 0, none⟩), .int .i64 (i : Int)] w fun e w' => ∃ v', e = .returned (.tuple #[v', .int .i64 0]) ∧ w'.ownsRow w.heap.size 5 1 v' 512 ((secL x.b i).map B) ∧ Below w.heap.size w w' := by
  have hr0 : reachE x i = 0 := by unfold reachE; rw [if_neg (by simp [ho]), if_neg (by omega)]
  have hr := reach_any (i : Int) w h
  rw [hr0] at hr
  have HR : Hid _ := hr
  obtain ⟨R, hmk, hRs, hRa⟩ := mk_bytes 512 (by omega) w
  have hal : Below w.heap.size w (w.alloc (.cells R 5)) := (Below.refl _ _).alloc (Nat.le_refl _) _
  have h1 := h.more hal
  have hBR : Blk (w.alloc (.cells R 5)) w.heap.size R 5 := heap_alloc_new w _
  obtain ⟨w2, hcp, ⟨cur, hcb, hcs, hca⟩, hch⟩ := copy_by (o := 0) (dLen := 512) (dCap := 512) hBR (h1.bySec i hi) (by rw [secL_len]; omega)
  rw [secL_len] at hcp hca
  have hown : w2.ownsRow w.heap.size 5 1 (.slice (some ⟨w.heap.size, 0, none⟩) 512 512) 512 ((secL x.b i).map B) := own_blk hcb (Nat.le_refl _) (by omega) (by unfold maxLen; omega) (fun j hj => by rw [hca j, if_pos (by omega)]; rfl) (secL_len _ _)
  have HF : Hid (w2.ownsRow w.heap.size 5 1 (.slice (some ⟨w.heap.size, 0, none⟩) 512 512) 512 ((secL x.b i).map B) ∧ Below w.heap.size w w2) := ⟨hown, hal.trans (hch.below hal.size (fun k e => by omega))⟩
  have c0 := h1.k0
  have hcp' : (Builtin.copy_ #[38, 38] 3 #[.slice (some ⟨w.heap.size, 0, none⟩) 512 512, .slice (some ⟨s, i * 512, none⟩) 512 512]).run Try.prog (w.alloc (.cells R 5)) = .ok (.int .i64 512) w2 := hcp
  have hmk' : (Instr.makeSlice 38 (.int .i64 512) (.int .i64 512)).run Try.prog w = .ok (.slice (some ⟨w.heap.size, 0, none⟩) 512 512) (w.alloc (.cells R 5)) := hmk
  clear h h1 hr hr0 hmk hRs hRa hal hBR hcb hcs hca hch hown hcp
  go_enter Try.func32, Try.ntmps32
  go_wp2_with fail
  refine Calls.mono HR.out ?_
  rintro e w1 ⟨rfl, hw1⟩
  replace hw1 := hw1.symm
  subst hw1
  clear HR
  go_wp2_with fail
  go_ret2
  exact ⟨_, rfl, HF.out.1, HF.out.2⟩
set_option maxRecDepth 100000 in
set_option maxHeartbeats 800000 in
theorem write_no (i : Int) {v : Value} (w : World) (h : DM L p s x w) (hr : reachE x i ≠ 0) : Calls Try.prog 56 #[.pointer (some ⟨p, 0, none⟩), .int .i64 i, v] w fun e w' => e = .returned (.int .i64 (reachE x i)) ∧ w' = w := by
  have HR : Hid _ := reach_any i w h
  obtain ⟨e0, he0⟩ : ∃ e0, e0 = reachE x i := ⟨_, rfl⟩
  rw [← he0] at hr HR ⊢
  have hrb : (e0 == 0) = false := by simpa using hr
  have hrc : (e0 != 0) = true := by simpa using hr
  clear h he0
  go_enter Try.func56, Try.ntmps56
  go_wp2_with fail
  refine Calls.mono HR.out ?_
  rintro e w1 ⟨rfl, hw1⟩
  replace hw1 := hw1.symm
  subst hw1
  clear HR
  go_wp2_with fail
  go_ret
  exact ⟨rfl, rfl⟩
set_option maxRecDepth 100000 in
set_option maxHeartbeats 800000 in
theorem write_arg (i : Nat) {ao : Option Addr} {k c : Nat} (w : World) (h : DM L p s x w) (ho : x.off = false) (hi : i < x.n) (hk : k ≠ 512) : Calls Try.prog 56 #[.pointer (some ⟨p, 0, none⟩), .int .i64 (i : Int), .slice ao k c] w fun e w' => e = .returned (.int .i64 1) ∧ w' = w := by
  have hr0 : reachE x i = 0 := by unfold reachE; rw [if_neg (by simp [ho]), if_neg (by omega)]
  have hr := reach_any (i : Int) w h
  rw [hr0] at hr
  have HR : Hid _ := hr
  have hk1 : ((k : Int) == 512) = false := by simp; omega
  have hk2 : ((k : Int) != 512) = true := by simp; omega
  have hk3 : ¬ ((k : Int) = 512) := by omega
  clear h hr hr0
  go_enter Try.func56, Try.ntmps56
  go_wp2_with fail
  refine Calls.mono HR.out ?_
  rintro e w1 ⟨rfl, hw1⟩
  replace hw1 := hw1.symm
  subst hw1
  clear HR
  go_wp2_with fail
  go_ret
  exact ⟨rfl, rfl⟩
def DV.put (x : DV) (i m : Nat) (bs : List UInt8) : DV := { x with b := fun k => if i * 512 ≤ k ∧ k < i * 512 + m then bs.getD (k - i * 512) 0 else x.b k }
theorem len77 : Try.prog.arrayLen 88 = 512 := by kernel_rfl
theorem elem77 : Try.prog.elem 88 = 5 := by kernel_rfl
theorem slice77 (g o m : Nat) (hm : m ≤ 512) (w : World) : (Instr.sliceAt 88 (.pointer (some ⟨g, o, none⟩)) none (some (.int .i64 (m : Int))) none).run Try.prog w = .ok (.slice (some ⟨g, o, none⟩) m 512) w := by
  have hs : (sizeOf 5).run Try.prog w = .ok 1 w := by kernel_rfl
  rw [run_sliceAt_array_h w 88 _ (by rw [len77, elem77]; exact Try.underlying88) .i64 (m : Int) (by omega) (by rw [len77]; omega), elem77, hs, len77]
  simp [Result.andThen, slicedAt, Addr.add]
/-- A sector is written. -/
theorem DM.copied {w w' : World} (h : DM L p s x w) {i m : Nat} {bs : List UInt8} (hm : m ≤ 512) (hi : i < x.n) {R : Array Value} (hR : Blk w s R 88) (hS : SBox x.n x.b R) (hc : ∃ cur', Blk w' s cur' 88 ∧ cur'.size = R.size ∧ ∀ j, cur'[j]? = if i * 512 ≤ j ∧ j < i * 512 + m then some (B (bs.getD (j - i * 512) 0)) else R[j]?) (hch : Chg (fun k => k = s) w w') : DM L p s (x.put i m bs) w' := by
  obtain ⟨C, h1, h2⟩ := h.box
  obtain ⟨cur, hb, hs, ha⟩ := hc
  refine ⟨⟨C, hch.blk h1 h.ne, ⟨h2.size, h2.c0, h2.c1, h2.c2, h2.c3, h2.c4, h2.c5, h2.ct⟩⟩, ⟨cur, hb, hs.trans hS.size, fun k hk => ?_⟩, h.lo, h.nb⟩
  rw [ha k]
  unfold DV.put
  simp only
  split
  · rfl
  · exact hS.at' k hk
set_option maxRecDepth 100000 in
set_option maxHeartbeats 3200000 in
theorem write_torn (i : Nat) {v : Value} {bs : List UInt8} (w : World) (h : DM L p s x w) (ho : x.off = false) (hi : i < x.n) (hl : bs.length = 512) (hb : By w v bs) (hv : ∀ ad k c, v = .slice (some ad) k c → ad.block ≠ p) (ha : x.armed = true) (hwh : x.whole = 0) (ht : x.torn ≤ 512) (hw : x.writes ≤ 1000000000000000000) :
    Calls Try.prog 56 #[.pointer (some ⟨p, 0, none⟩), .int .i64 (i : Int), v] w fun e w' => e = .returned (.int .i64 200) ∧ DM L p s ((x.noted i).put i x.torn bs).offed w' ∧ Chg (down p s) w w' := by
  have hr0 : reachE x i = 0 := by unfold reachE; rw [if_neg (by simp [ho]), if_neg (by omega)]
  have hr := reach_any (i : Int) w h
  rw [hr0] at hr
  have HR : Hid _ := hr
  have HNT : Hid _ := note_any i w h hw
  obtain ⟨ao, k, c, hvv, hvl, _⟩ := id hb
  rw [hl] at hvl
  subst hvl
  have HBY : Hid (By w v bs) := hb
  have HBV : Hid _ := hv
  have HN : Hid (p ≠ s) := h.ne
  subst hvv
  clear h hr hr0 hb hv
  go_enter Try.func56, Try.ntmps56
  go_wp2_with fail
  refine Calls.mono HR.out ?_
  rintro e w1 ⟨rfl, hw1⟩
  replace hw1 := hw1.symm
  subst hw1
  clear HR
  go_wp2_with fail
  refine Calls.mono HNT.out ?_
  rintro e w1 ⟨rfl, h1, hc1⟩
  clear HNT
  have h1d : DM L p s (x.noted i) w1.drew := h1.drew 1
  have hc1d : Chg (fun k => k = p) w w1.drew := hc1.drewN 1
  obtain ⟨R, hRb, hRs⟩ := h1d.sec
  have hby1 : By w1.drew (.slice ao 512 c) bs := HBY.out.chg hc1d HBV.out
  obtain ⟨w2, hcp, hcc, hch⟩ := copy_by (o := i * 512) (dLen := x.torn) (dCap := 512) hRb hby1 (by rw [hRs.size]; show _ ≤ 512 * x.n; omega)
  have hmn : min bs.length x.torn = x.torn := by omega
  rw [hmn] at hcp hcc
  have h2 := h1d.copied (bs := bs) ht hi hRb hRs hcc hch
  have HOF : Hid _ := off_any w2 h2
  have k0 : w1.cell? ⟨p, 0, none⟩ = some (.slice (some ⟨s, 0, none⟩) x.n x.n) := h1.k0
  have k2 : w1.cell? ⟨p, 2, none⟩ = some (.bool true) := by rw [h1.k2]; show some (Value.bool x.armed) = _; rw [ha]
  have k3 : w1.cell? ⟨p, 3, none⟩ = some (.int .i64 0) := by rw [h1.k3]; show some (Value.int .i64 (x.whole : Int)) = _; rw [hwh]; rfl
  have k4 : w1.cell? ⟨p, 4, none⟩ = some (.int .i64 (x.torn : Int)) := h1.k4
  have hii : (i : Int) < (x.n : Int) := by omega
  have hsl := slice77 s (i * 512) x.torn ht w1.drew
  have HC : Hid (Chg (down p s) w w2) := (hc1d.mono (B := down p s) (fun j _ e => Or.inl e)).trans hch (fun j _ e => Or.inr e)
  clear h1 hc1 h1d hc1d hby1 hcc hch h2 hRb hRs hmn
  go_wp2_with fail
  go_region
  go_wp2_with fail
  refine Calls.mono HOF.out ?_
  rintro e w3 ⟨rfl, h3, hc3⟩
  clear HOF
  have HF : Hid (DM L p s ((x.noted i).put i x.torn bs).offed w3 ∧ Chg (down p s) w w3) := ⟨h3, HC.out.trans hc3 (fun j _ e => Or.inl e)⟩
  clear h3 hc3
  go_wp2_with fail
  go_ret
  exact ⟨rfl, HF.out.1, HF.out.2⟩
def DV.dec (x : DV) : DV := if x.armed = true then { x with whole := x.whole - 1 } else x
set_option maxRecDepth 100000 in
set_option maxHeartbeats 3200000 in
theorem write_whole (i : Nat) {v : Value} {bs : List UInt8} (w : World) (h : DM L p s x w) (ho : x.off = false) (hi : i < x.n) (hl : bs.length = 512) (hb : By w v bs) (hv : ∀ ad k c, v = .slice (some ad) k c → ad.block ≠ p) (ha : x.armed = true → 1 ≤ x.whole) (hwb : x.whole ≤ 9223372036854775807) (hw : x.writes ≤ 1000000000000000000) :
    Calls Try.prog 56 #[.pointer (some ⟨p, 0, none⟩), .int .i64 (i : Int), v] w fun e w' => e = .returned (.int .i64 0) ∧ DM L p s ((x.noted i).dec.put i 512 bs) w' ∧ Chg (down p s) w w' := by
  have hr0 : reachE x i = 0 := by unfold reachE; rw [if_neg (by simp [ho]), if_neg (by omega)]
  have hr := reach_any (i : Int) w h
  rw [hr0] at hr
  have HR : Hid _ := hr
  have HNT : Hid _ := note_any i w h hw
  obtain ⟨ao, k, c, hvv, hvl, _⟩ := id hb
  rw [hl] at hvl
  subst hvl
  have HBY : Hid (By w v bs) := hb
  have HBV : Hid _ := hv
  have HN : Hid (p ≠ s) := h.ne
  subst hvv
  clear h hr hr0 hb hv
  cases har : x.armed with
  | false =>
    go_enter Try.func56, Try.ntmps56
    go_wp2_with fail
    refine Calls.mono HR.out ?_
    rintro e w1 ⟨rfl, hw1⟩
    replace hw1 := hw1.symm
    subst hw1
    clear HR
    go_wp2_with fail
    refine Calls.mono HNT.out ?_
    rintro e w1 ⟨rfl, h1, hc1⟩
    clear HNT
    have hd : (x.noted i).dec = x.noted i := by unfold DV.dec; rw [if_neg (by show ¬ x.armed = true; rw [har]; simp)]
    obtain ⟨R, hRb, hRs⟩ := h1.sec
    have hby1 : By w1 (.slice ao 512 c) bs := HBY.out.chg hc1 HBV.out
    obtain ⟨w2, hcp, hcc, hch⟩ := copy_by (o := i * 512) (dLen := 512) (dCap := 512) hRb hby1 (by rw [hRs.size]; show _ ≤ 512 * x.n; omega)
    have hmn : min bs.length 512 = 512 := by omega
    rw [hmn] at hcp hcc
    have h2 := h1.copied (bs := bs) (Nat.le_refl _) hi hRb hRs hcc hch
    rw [← hd] at h2
    have k0 : w1.cell? ⟨p, 0, none⟩ = some (.slice (some ⟨s, 0, none⟩) x.n x.n) := h1.k0
    have k2 : w1.cell? ⟨p, 2, none⟩ = some (.bool false) := by rw [h1.k2]; show some (Value.bool x.armed) = _; rw [har]
    have HF : Hid (DM L p s ((x.noted i).dec.put i 512 bs) w2 ∧ Chg (down p s) w w2) := ⟨h2, (hc1.mono (B := down p s) (fun j _ e => Or.inl e)).trans hch (fun j _ e => Or.inr e)⟩
    clear h1 hc1 hby1 hcc hch h2 hRb hRs hmn hd ha
    go_wp2_with fail
    go_ret
    exact ⟨rfl, HF.out.1, HF.out.2⟩
  | true =>
    have ha1 := ha har
    have hnz : ((x.whole : Int) == 0) = false := by simp; omega
    have hnz2 : ¬ ((x.whole : Int) = 0) := by omega
    go_enter Try.func56, Try.ntmps56
    go_wp2_with fail
    refine Calls.mono HR.out ?_
    rintro e w1 ⟨rfl, hw1⟩
    replace hw1 := hw1.symm
    subst hw1
    clear HR
    go_wp2_with fail
    refine Calls.mono HNT.out ?_
    rintro e w1 ⟨rfl, h1, hc1⟩
    clear HNT
    have hd : (x.noted i).dec = { x.noted i with whole := x.whole - 1 } := by unfold DV.dec; rw [if_pos (by show x.armed = true; exact har)]; rfl
    have h1b : DM L p s { x.noted i with whole := x.whole - 1 } (w1.setCell ⟨p, 3, none⟩ (.int .i64 ((x.whole - 1 : Nat) : Int))) := h1.setBox 3 _ rfl rfl fun C hC => hC.setWhole (x.whole - 1)
    have hcb := setCell_chg w1 p 3 (.int .i64 ((x.whole - 1 : Nat) : Int))
    rw [show ((x.whole - 1 : Nat) : Int) = (x.whole : Int) - 1 by omega] at h1b hcb
    obtain ⟨R, hRb, hRs⟩ := h1b.sec
    have hby1 : By (w1.setCell ⟨p, 3, none⟩ (.int .i64 ((x.whole : Int) - 1))) (.slice ao 512 c) bs := HBY.out.chg (hc1.trans hcb (fun _ _ e => e)) HBV.out
    obtain ⟨w2, hcp, hcc, hch⟩ := copy_by (o := i * 512) (dLen := 512) (dCap := 512) hRb hby1 (by rw [hRs.size]; show _ ≤ 512 * x.n; omega)
    have hmn : min bs.length 512 = 512 := by omega
    rw [hmn] at hcp hcc
    have h2 := h1b.copied (bs := bs) (Nat.le_refl _) hi hRb hRs hcc hch
    rw [← hd] at h2
    have k0 : w1.cell? ⟨p, 0, none⟩ = some (.slice (some ⟨s, 0, none⟩) x.n x.n) := h1.k0
    have k2 : w1.cell? ⟨p, 2, none⟩ = some (.bool true) := by rw [h1.k2]; show some (Value.bool x.armed) = _; rw [har]
    have k3 : w1.cell? ⟨p, 3, none⟩ = some (.int .i64 (x.whole : Int)) := h1.k3
    have f3 : w1.frozen? ⟨p, 3, none⟩ = false := h1.fz 3
    have HF : Hid (DM L p s ((x.noted i).dec.put i 512 bs) w2 ∧ Chg (down p s) w w2) := ⟨h2, ((hc1.trans hcb (fun _ _ e => e)).mono (B := down p s) (fun j _ e => Or.inl e)).trans hch (fun j _ e => Or.inr e)⟩
    clear h1 hc1 h1b hcb hby1 hcc hch h2 hRb hRs hmn hd ha
    go_wp2_with fail
    go_ret
    exact ⟨rfl, HF.out.1, HF.out.2⟩
def tornN (t : Int) : Nat := (min (max t 0) 512).toNat
def DV.arm (x : DV) (after torn : Int) : DV := if after < 0 then { x with armed := false, whole := 0, torn := 0 } else { x with armed := true, whole := after.toNat, torn := tornN torn }
set_option maxRecDepth 100000 in
theorem arm_off (a t : Int) (w : World) (h : DM L p s x w) (ho : x.off = true) : Calls Try.prog 22 #[.pointer (some ⟨p, 0, none⟩), .int .i64 a, .int .i64 t] w fun e w' => e = .returned (.tuple #[]) ∧ w' = w := by
  have k1 := h.k1
  rw [ho] at k1
  clear h
  go_enter Try.func22, Try.ntmps22
  go_wp2_with fail
  refine bodyPost_ret (results_none rfl _ _ _) rfl ?_
  exact ⟨rfl, rfl⟩
theorem DM.fuse {w : World} (h : DM L p s x w) (a : Bool) (m t : Nat) : DM L p s { x with armed := a, whole := m, torn := t } (((w.setCell ⟨p, 2, none⟩ (.bool a)).setCell ⟨p, 3, none⟩ (.int .i64 (m : Int))).setCell ⟨p, 4, none⟩ (.int .i64 (t : Int))) ∧ Chg (fun k => k = p) w (((w.setCell ⟨p, 2, none⟩ (.bool a)).setCell ⟨p, 3, none⟩ (.int .i64 (m : Int))).setCell ⟨p, 4, none⟩ (.int .i64 (t : Int))) := by
  have h2 := h.setBox (y := { x with armed := a }) 2 (.bool a) rfl rfl fun C hC => hC.setArmed a
  have h3 := h2.setBox (y := { x with armed := a, whole := m }) 3 (.int .i64 (m : Int)) rfl rfl fun C hC => hC.setWhole m
  have h4 := h3.setBox (y := { x with armed := a, whole := m, torn := t }) 4 (.int .i64 (t : Int)) rfl rfl fun C hC => hC.setTorn t
  exact ⟨h4, (((Chg.refl _ w).trans (setCell_chg _ _ _ _) (fun _ _ e => e)).trans (setCell_chg _ _ _ _) (fun _ _ e => e)).trans (setCell_chg _ _ _ _) (fun _ _ e => e)⟩
set_option maxRecDepth 100000 in
set_option maxHeartbeats 1600000 in
theorem arm_on (a t : Int) (w : World) (h : DM L p s x w) (ho : x.off = false) (hab : a ≤ 9223372036854775807) : Calls Try.prog 22 #[.pointer (some ⟨p, 0, none⟩), .int .i64 a, .int .i64 t] w fun e w' => e = .returned (.tuple #[]) ∧ DM L p s (x.arm a t) w' ∧ Chg (fun k => k = p) w w' := by
  have k1 := h.k1
  have k2 := h.k2
  have k3 := h.k3
  have k4 := h.k4
  have f2 := h.fz 2
  have f3 := h.fz 3
  have f4 := h.fz 4
  rw [ho] at k1
  obtain ⟨h1, hc1⟩ := h.fuse false 0 0
  by_cases ha : a < 0
  · have hax : x.arm a t = { x with armed := false, whole := 0, torn := 0 } := by unfold DV.arm; rw [if_pos ha]
    rw [← hax] at h1
    have HF : Hid _ := And.intro h1 hc1
    clear h h1 hc1 hax
    go_enter Try.func22, Try.ntmps22
    go_wp2_with fail
    refine bodyPost_end (results_none rfl _ _ _) rfl ?_
    exact ⟨rfl, HF.out.1, HF.out.2⟩
  · obtain ⟨h2, hc2⟩ := h1.fuse true a.toNat (tornN t)
    have hax : x.arm a t = { x with armed := true, whole := a.toNat, torn := tornN t } := by unfold DV.arm; rw [if_neg ha]
    have e1 : (a.toNat : Int) = a := by omega
    rw [e1] at h2 hc2
    have HX : Hid _ := hax
    have hc3 := hc1.trans hc2 (fun _ _ e => e)
    clear h h1 hc1 hc2 e1 hax
    by_cases t0 : t < 0
    · have e2 : (tornN t : Int) = 0 := by unfold tornN; omega
      rw [e2] at h2 hc3
      have HF : Hid _ := And.intro h2 hc3
      clear h2 hc3 e2
      go_enter Try.func22, Try.ntmps22
      go_wp2_with fail
      all_goals (first | omega | (refine bodyPost_end (results_none rfl _ _ _) rfl ?_; rw [HX.out]; exact ⟨rfl, HF.out.1, HF.out.2⟩))
    · by_cases t1 : t ≤ 512
      · have e2 : (tornN t : Int) = t := by unfold tornN; omega
        rw [e2] at h2 hc3
        have HF : Hid _ := And.intro h2 hc3
        clear h2 hc3 e2
        go_enter Try.func22, Try.ntmps22
        go_wp2_with fail
        all_goals (first | omega | (refine bodyPost_end (results_none rfl _ _ _) rfl ?_; rw [HX.out]; exact ⟨rfl, HF.out.1, HF.out.2⟩))
      · have e2 : (tornN t : Int) = 512 := by unfold tornN; omega
        rw [e2] at h2 hc3
        have HF : Hid _ := And.intro h2 hc3
        clear h2 hc3 e2
        go_enter Try.func22, Try.ntmps22
        go_wp2_with fail
        all_goals (first | omega | (refine bodyPost_end (results_none rfl _ _ _) rfl ?_; rw [HX.out]; exact ⟨rfl, HF.out.1, HF.out.2⟩))
end
end Go.Proofs.Ytcnokgphioigoaa
namespace Go.Proofs.Ytcnokgphioigoaa
open Go.RowKit Go.PlainAid
set_option linter.unusedVariables false
set_option linter.unusedSimpArgs false
/-- All bytes. -/
def imgL (x : DV) : List UInt8 := (List.range (512 * x.n)).map x.b
theorem imgL_len (x : DV) : (imgL x).length = 512 * x.n := by rw [imgL, List.length_map, List.length_range]
theorem imgL_get (x : DV) (j : Nat) (h : j < 512 * x.n) : (imgL x)[j]? = some (x.b j) := by rw [imgL, List.getElem?_map, List.getElem?_range h]; rfl
theorem imgL_getD (x : DV) (j : Nat) (h : j < 512 * x.n) : (imgL x).getD j 0 = x.b j := by rw [List.getD_eq_getElem?_getD, imgL_get x j h]; rfl
theorem secL_getD (b : Nat → UInt8) (i j : Nat) (h : j < 512) : (secL b i).getD j 0 = b (i * 512 + j) := by rw [List.getD_eq_getElem?_getD, secL_get b i j h]; rfl
theorem slice30 (g len cap m : Nat) (h1 : m ≤ len) (h2 : m < cap) (z : Int) (hz : z = (m : Int)) (w : World) : (Instr.sliceAt 38 (.slice (some ⟨g, 0, none⟩) len cap) (some (.int .i64 z)) none none).run Try.prog w = .ok (.slice (some ⟨g, m, none⟩) (len - m) (cap - m)) w := by
  subst hz
  have hs : (sizeOf 5).run Try.prog w = .ok 1 w := by kernel_rfl
  have he : Try.prog.elem 38 = 5 := by kernel_rfl
  have hu2 : Try.prog.underlying 38 = some (.slice (Try.prog.elem 38)) := by rw [he]; exact Try.underlying38
  have h3 : ¬ cap = m := by omega
  rw [run_sliceAt_slice _ _ _ _ _ _ hu2, run_slice_l _ _ _ _ _ hu2 .i64 (m : Int) (by omega) (by omega), he, hs]
  simp [Result.andThen, sliced, h3, addr_add]
section
variable {L p s : Nat} {x : DV}
set_option maxRecDepth 100000 in
set_option maxHeartbeats 1600000 in
theorem image_any (w : World) (h : DM L p s x w) : Calls Try.prog 28 #[.pointer (some ⟨p, 0, none⟩)] w fun e w' => ∃ v', e = .returned v' ∧ w'.ownsRow w.heap.size 5 1 v' (512 * x.n) ((imgL x).map B) ∧ Below w.heap.size w w' := by
  obtain ⟨hn1, hn2⟩ := h.nb
  obtain ⟨R, hmk, hRs, hRa⟩ := mk_bytes (512 * x.n) (by omega) w
  have k0 := h.k0
  have hmk' : (Instr.makeSlice 38 (.int .i64 ((x.n : Int) * 512)) (.int .i64 ((x.n : Int) * 512))).run Try.prog w = .ok (.slice (some ⟨w.heap.size, 0, none⟩) (512 * x.n) (512 * x.n)) (w.alloc (.cells R 5)) := by
    rw [show (x.n : Int) * 512 = ((512 * x.n : Nat) : Int) by omega]; exact hmk
  have hal : Below w.heap.size w (w.alloc (.cells R 5)) := (Below.refl _ _).alloc (Nat.le_refl _) _
  have hBR : Blk (w.alloc (.cells R 5)) w.heap.size R 5 := heap_alloc_new w _
  have k0' := (h.more hal).k0
  have H : Hid (DM L p s x w) := h
  have HS : Hid (∃ cur, Blk (w.alloc (.cells R 5)) w.heap.size cur 5 ∧ cur.size = 512 * x.n ∧ ∀ j, j < 0 * 512 → cur[j]? = some (B (x.b j))) := ⟨R, hBR, hRs, fun j hj => by omega⟩
  have HAL : Hid _ := hal
  clear h hmk hRs hRa hal hBR
  go_enter Try.func28, Try.ntmps28
  go_wp2_with fail
  go_loopw [17] (fun s17 wr => ∃ i : Nat, i ≤ x.n ∧ s17 = .int .i64 (i : Int) ∧ (∃ cur, Blk wr w.heap.size cur 5 ∧ cur.size = 512 * x.n ∧ ∀ j, j < i * 512 → cur[j]? = some (B (x.b j))) ∧ Below w.heap.size w wr) (fun s17 _ => x.n - (intOf s17).toNat)
  case atStart => exact ⟨0, by omega, rfl, HS.out, HAL.out⟩
  case round =>
    clear HS HAL k0'
    obtain ⟨i, hi, rfl, ⟨cur, hcb, hcs, hca⟩, hb⟩ := hrel
    by_cases hlt : i < x.n
    · have hd := (H.out.more hb).drew 1
      have hcbd : Blk wr.drew w.heap.size cur 5 := hcb
      obtain ⟨w2, hcp, ⟨cur2, hcb2, hcs2, hca2⟩, hch⟩ := copy_by (o := i * 512) (dLen := 512 * x.n - i * 512) (dCap := 512 * x.n - i * 512) hcbd (hd.bySec i hlt) (by rw [secL_len]; omega)
      have hmn : min (secL x.b i).length (512 * x.n - i * 512) = 512 := by rw [secL_len]; omega
      rw [hmn] at hcp hca2
      have HN : Hid ((∃ cur, Blk w2 w.heap.size cur 5 ∧ cur.size = 512 * x.n ∧ ∀ j, j < (i + 1) * 512 → cur[j]? = some (B (x.b j))) ∧ Below w.heap.size w w2) := ⟨⟨cur2, hcb2, by omega, fun j hj => by
        rw [hca2 j]
        split
        · rename_i hjj
          rw [secL_getD _ _ _ (by omega), show i * 512 + (j - i * 512) = j by omega]
        · exact hca j (by omega)⟩, (hb.drew).trans (hch.below (by have := hb.size; exact this) (fun k e => by omega))⟩
      have hsl := slice30 w.heap.size (512 * x.n) (512 * x.n) (i * 512) (by omega) (by omega) ((i : Int) * 512) (by omega) wr.drew
      have k0r : wr.cell? ⟨p, 0, none⟩ = some (.slice (some ⟨s, 0, none⟩) x.n x.n) := (H.out.more hb).k0
      have hii : (i : Int) < (x.n : Int) := by omega
      clear hcb hcs hca hb hd hcbd hcb2 hcs2 hca2 hch hmn
      go_wp2_with fail
      go_region
      go_wp2_with fail
      go_roundw
      case rel => exact ⟨i + 1, by omega, by go_num, HN.out.1, HN.out.2⟩
      case measure => simp [intOf]; omega
    · obtain rfl : i = x.n := by omega
      have hown : wr.ownsRow w.heap.size 5 1 (.slice (some ⟨w.heap.size, 0, none⟩) (512 * x.n) (512 * x.n)) (512 * x.n) ((imgL x).map B) := own_blk hcb (Nat.le_refl _) hcs (by unfold maxLen; omega) (fun j hj => by rw [hca j (by omega), imgL_getD x j hj]) (imgL_len x)
      have HF : Hid (wr.ownsRow w.heap.size 5 1 (.slice (some ⟨w.heap.size, 0, none⟩) (512 * x.n) (512 * x.n)) (512 * x.n) ((imgL x).map B) ∧ Below w.heap.size w wr) := ⟨hown, hb⟩
      clear hcb hcs hca hb hown
      go_wp2_with fail
      go_ret
      exact ⟨_, rfl, HF.out.1, HF.out.2⟩
end
end Go.Proofs.Ytcnokgphioigoaa
namespace Go.Proofs.Ytcnokgphioigoaa
open Go.RowKit Go.PlainAid
set_option linter.unusedVariables false
set_option linter.unusedSimpArgs false
theorem slice30o (g o len cap m : Nat) (h1 : m ≤ len) (h2 : m < cap) (z : Int) (hz : z = (m : Int)) (w : World) : (Instr.sliceAt 38 (.slice (some ⟨g, o, none⟩) len cap) (some (.int .i64 z)) none none).run Try.prog w = .ok (.slice (some ⟨g, o + m, none⟩) (len - m) (cap - m)) w := by
  subst hz
  have hs : (sizeOf 5).run Try.prog w = .ok 1 w := by kernel_rfl
  have he : Try.prog.elem 38 = 5 := by kernel_rfl
  have hu2 : Try.prog.underlying 38 = some (.slice (Try.prog.elem 38)) := by rw [he]; exact Try.underlying38
  have h3 : ¬ cap = m := by omega
  rw [run_sliceAt_slice _ _ _ _ _ _ hu2, run_slice_l _ _ _ _ _ hu2 .i64 (m : Int) (by omega) (by omega), he, hs]
  simp [Result.andThen, sliced, h3, addr_add]
theorem By.drop {w : World} {g o k c : Nat} {bs : List UInt8} (h : By w (.slice (some ⟨g, o, none⟩) k c) bs) (m : Nat) : By w (.slice (some ⟨g, o + m, none⟩) (k - m) (c - m)) (bs.drop m) := by
  obtain ⟨ao, k', c', e, h1, h2, h3⟩ := h
  cases e
  refine ⟨_, _, _, rfl, by rw [List.length_drop, h1], (fun e => by cases e), fun ad e j u hu => ?_⟩
  cases e
  have := h3 _ rfl (m + j) u (by rw [List.map_drop, List.getElem?_drop] at hu; exact hu)
  rw [addr_add] at this ⊢
  rw [← this]
  congr 2
  omega
def fromX (n : Nat) (bs : List UInt8) : DV := { fresh n with b := fun k => if k < n * 512 then bs.getD k 0 else 0 }
def fromI (n : Nat) (bs : List UInt8) (i : Nat) : DV := { fresh n with b := fun k => if k < i * 512 then bs.getD k 0 else 0 }
set_option maxRecDepth 100000 in
theorem fromI_next (n i : Nat) (bs : List UInt8) : (fromI n bs i).put i 512 (bs.drop (i * 512)) = fromI n bs (i + 1) := by
  unfold fromI DV.put
  congr 1
  funext k
  simp only
  by_cases h1 : k < i * 512
  · rw [if_neg (by omega), if_pos h1, if_pos (by omega)]
  · by_cases h2 : k < (i + 1) * 512
    · rw [if_pos (by omega), if_pos h2, List.getD_eq_getElem?_getD, List.getElem?_drop, List.getD_eq_getElem?_getD, show i * 512 + (k - i * 512) = k by omega]
    · rw [if_neg (by omega), if_neg h1, if_neg h2]
set_option maxRecDepth 100000 in
theorem from_odd {ao : Option Addr} {k c : Nat} (w : World) (h : k % 512 ≠ 0) : Calls Try.prog 43 #[.slice ao k c] w fun e w' => e = .returned (.tuple #[.pointer none, .int .i64 1]) ∧ w' = w := by
  have ht : ((k : Int)).tmod 512 = ((k % 512 : Nat) : Int) := by rw [Int.tmod_eq_emod_of_nonneg (by omega)]; omega
  have h1 : (((k : Int)).tmod 512 != 0) = true := by rw [ht]; simp; omega
  have h2 : ¬ (((k : Int)).tmod 512 = 0) := by rw [ht]; omega
  have h3 : (((k : Int)).tmod 512 == 0) = false := by rw [ht]; simp; omega
  have h4 : ¬ ((k : Int) % 512 = 0) := by omega
  clear ht
  go_enter Try.func43, Try.ntmps43
  go_wp2_with fail
  go_ret2
  exact ⟨rfl, rfl⟩
set_option maxRecDepth 100000 in
set_option maxHeartbeats 800000 in
theorem from_no {ao : Option Addr} {n c : Nat} (w : World) (hn : n < 1 ∨ 65536 < n) (hnb : n ≤ 18014398509481983) : Calls Try.prog 43 #[.slice ao (n * 512) c] w fun e w' => e = .returned (.tuple #[.pointer none, .int .i64 1]) ∧ w' = w := by
  have HN : Hid _ := new_no (n : Int) w (by omega)
  obtain ⟨k, hk⟩ : ∃ k, k = n * 512 := ⟨_, rfl⟩
  have ht : ((k : Int)).tmod 512 = 0 := by rw [Int.tmod_eq_emod_of_nonneg (by omega)]; omega
  have hd : ((k : Int)).tdiv 512 = (n : Int) := by rw [Int.tdiv_eq_ediv_of_nonneg (by omega)]; omega
  rw [← hk]
  have ht2 : (k : Int) % 512 = 0 := by omega
  have hd2 : (k : Int) / 512 = (n : Int) := by omega
  clear hk
  go_enter Try.func43, Try.ntmps43
  go_wp2_with fail
  refine Calls.mono HN.out ?_
  rintro e w1 ⟨rfl, hw1⟩
  replace hw1 := hw1.symm
  subst hw1
  clear HN
  go_wp2_with fail
  go_ret2
  exact ⟨rfl, rfl⟩
set_option maxRecDepth 100000 in
set_option maxHeartbeats 1600000 in
theorem from_yes {g o n c : Nat} {bs : List UInt8} (w : World) (hn : 1 ≤ n ∧ n ≤ 65536) (hb : By w (.slice (some ⟨g, o, none⟩) (n * 512) c) bs) (hc : n * 512 ≤ c) :
    Calls Try.prog 43 #[.slice (some ⟨g, o, none⟩) (n * 512) c] w fun e w' => e = .returned (.tuple #[.pointer (some ⟨w.heap.size + 1, 0, none⟩), .int .i64 0]) ∧ DM w.heap.size (w.heap.size + 1) w.heap.size (fromX n bs) w' ∧ Below w.heap.size w w' := by
  have HN : Hid _ := new_yes n w hn
  obtain ⟨k, hk⟩ : ∃ k, k = n * 512 := ⟨_, rfl⟩
  have ht : ((k : Int)).tmod 512 = 0 := by rw [Int.tmod_eq_emod_of_nonneg (by omega)]; omega
  have hd : ((k : Int)).tdiv 512 = (n : Int) := by rw [Int.tdiv_eq_ediv_of_nonneg (by omega)]; omega
  rw [← hk] at hb hc ⊢
  have ht2 : (k : Int) % 512 = 0 := by omega
  have hd2 : (k : Int) / 512 = (n : Int) := by omega
  have HK : Hid (k = n * 512) := hk
  have HB : Hid (By w (.slice (some ⟨g, o, none⟩) k c) bs) := hb
  have hlen : bs.length = k := by
    obtain ⟨ao, k', c', e, h1, _⟩ := hb
    cases e
    exact h1
  have HLEN : Hid _ := hlen
  obtain ⟨hn1, hn2⟩ := hn
  clear hk hb hlen
  go_enter Try.func43, Try.ntmps43
  go_wp2_with fail
  refine Calls.mono HN.out ?_
  rintro e w1 ⟨rfl, h1, hb1⟩
  have h1 : DM w.heap.size (w.heap.size + 1) w.heap.size (fromI n bs 0) w1 := by
    have e : fromI n bs 0 = fresh n := by unfold fromI fresh; simp
    rw [e]; exact h1
  have k0 : w1.cell? ⟨w.heap.size + 1, 0, none⟩ = some (.slice (some ⟨w.heap.size, 0, none⟩) n n) := h1.k0
  have HD : Hid _ := h1
  have HB1 : Hid _ := hb1
  clear HN h1 hb1
  go_wp2_with fail
  clear k0
  go_loopw [26] (fun s26 wr => ∃ i : Nat, i ≤ n ∧ s26 = .int .i64 (i : Int) ∧ DM w.heap.size (w.heap.size + 1) w.heap.size (fromI n bs i) wr ∧ Below w.heap.size w wr) (fun s26 _ => n - (intOf s26).toNat)
  case atStart => exact ⟨0, by omega, rfl, HD.out, HB1.out⟩
  case round =>
    clear HD HB1
    obtain ⟨i, hi, rfl, hm, hb⟩ := hrel
    by_cases hlt : i < n
    · have hd : DM w.heap.size (w.heap.size + 1) w.heap.size (fromI n bs i) wr.drew := hm.drew 1
      have hbd : Below w.heap.size w wr.drew := hb.drew
      have hby := (HB.out.keep hbd).drop (i * 512)
      obtain ⟨R, hRb, hRs⟩ := hd.sec
      have hkk := HK.out
      have hll := HLEN.out
      obtain ⟨w2, hcp, hcc, hch⟩ := copy_by (o := i * 512) (dLen := 512) (dCap := 512) hRb hby (by rw [hRs.size, List.length_drop]; show _ ≤ 512 * n; omega)
      have hmn : min (bs.drop (i * 512)).length 512 = 512 := by rw [List.length_drop]; omega
      rw [hmn] at hcp hcc
      have h2 := hd.copied (bs := bs.drop (i * 512)) (Nat.le_refl _) hlt hRb hRs hcc hch
      rw [fromI_next] at h2
      have HN2 : Hid (DM w.heap.size (w.heap.size + 1) w.heap.size (fromI n bs (i + 1)) w2 ∧ Below w.heap.size w w2) := ⟨h2, hbd.trans (hch.below hbd.size (fun k e => by omega))⟩
      have hsl := slice30o g o k c (i * 512) (by omega) (by omega) ((i : Int) * 512) (by omega) wr.drew
      have k0r : wr.cell? ⟨w.heap.size + 1, 0, none⟩ = some (.slice (some ⟨w.heap.size, 0, none⟩) n n) := hm.k0
      have hii : (i : Int) < (n : Int) := by omega
      clear hm hb hd hbd hby hRb hRs hcc hch hmn h2 hkk hll
      go_wp2_with fail
      go_region
      go_wp2_with fail
      go_roundw
      case rel => exact ⟨i + 1, by omega, by go_num, HN2.out.1, HN2.out.2⟩
      case measure => simp [intOf]; omega
    · obtain rfl : i = n := by omega
      have HF : Hid (DM w.heap.size (w.heap.size + 1) w.heap.size (fromX i bs) wr ∧ Below w.heap.size w wr) := ⟨hm, hb⟩
      clear hm hb
      go_wp2_with fail
      go_ret2
      exact ⟨rfl, HF.out.1, HF.out.2⟩
/-- Trace. -/
def trL (x : DV) : List Int := (List.range (min x.writes 64)).map fun i => (x.tr ((x.writes - min x.writes 64 + i) % 64) : Int)
theorem trL_len (x : DV) : (trL x).length = min x.writes 64 := by rw [trL, List.length_map, List.length_range]
theorem trL_get (x : DV) (i : Nat) (h : i < min x.writes 64) : (trL x)[i]? = some (x.tr ((x.writes - min x.writes 64 + i) % 64) : Int) := by rw [trL, List.getElem?_map, List.getElem?_range h]; rfl
theorem own_blkI {w : World} {L g n : Nat} {cur : Array Value} {zs : List Int} (h : Blk w g cur 3) (hL : L ≤ g) (hn : cur.size = n) (hm : n ≤ maxLen) (hb : ∀ (j : Nat) (z : Int), zs[j]? = some z → cur[j]? = some (I z)) (hl : zs.length = n) : w.ownsRow L 3 1 (.slice (some ⟨g, 0, none⟩) n n) n (zs.map I) := by
  refine ⟨by simp [hl], Or.inr ⟨g, n, cur, rfl, hL, h, Nat.le_refl _, hm, by omega, ?_⟩⟩
  rw [Nat.mul_one, List.take_of_length_le (by simp [hn])]
  apply List.ext_getElem?
  intro j
  rw [Array.getElem?_toList, List.getElem?_map]
  by_cases hj : j < n
  · rw [hb j _ (List.getElem?_eq_getElem (by omega)), List.getElem?_eq_getElem (by omega)]
    rfl
  · rw [Array.getElem?_eq_none (by omega), List.getElem?_eq_none (by omega)]
    rfl
section
variable {L p s : Nat} {x : DV}
end
end Go.Proofs.Ytcnokgphioigoaa
namespace Go.Proofs.Ytcnokgphioigoaa
open Go.RowKit Go.PlainAid
set_option linter.unusedVariables false
set_option linter.unusedSimpArgs false
section
variable {L p s : Nat} {x : DV}
end
/-- The row that the caller holds on to, while bytes are laid behind it. -/
theorem own_setAbove {w : World} {L L' n g cap k m c : Nat} {zs ys : List UInt8} (h : w.ownsRow L 5 1 (.slice (some ⟨g, 0, none⟩) n cap) n (zs.map B)) (hk : n ≤ k) (z : UInt8) : (w.setCell ⟨g, k, none⟩ (B z)).ownsRow L 5 1 (.slice (some ⟨g, 0, none⟩) n cap) n (zs.map B) := by
  have := (own_setB (k := k) h z).1
  rwa [List.set_eq_of_length_le (by have := h.1; simp at this; omega)] at this
theorem app_bytesK {w : World} {base k : Nat} {v : Value} {xs : List Value} (hown : w.ownsRow base 5 1 v k xs) (hbase : base ≤ w.heap.size) (ps : List UInt8) (hl : k + ps.length ≤ 140737488355328) :
    ∃ v' w', (∀ ty, (Builtin.append_ #[38, 38] ty #[v, .slice (some ⟨w.heap.size, 0, none⟩) ps.length ps.length]).run Try.prog (w.alloc (.cells (ps.map B).toArray 5)) = .ok v' w') ∧ w'.ownsRow base 5 1 v' (k + ps.length) (xs ++ ps.map B) ∧ Grew w w' v v' ∧
      ∀ (d : Value) (n base' : Nat) (zs : List Value), n ≤ k → d.ownBlock = v.ownBlock → w.ownsRow base' 5 1 d n zs → w'.ownsRow base' 5 1 d n zs := by
  obtain ⟨v', w', a, b, c, d⟩ := app_any (w := w.alloc (.cells (ps.map B).toArray 5)) 38 5 (.int .u8 0) 1 1 Try.underlying38 info5' rfl (by decide) (by decide) (hown.alloc _) ⟨w.heap.size, 0, none⟩ ps.length ps.length (ps.map B) (by simp) (fun j u hu => by
    have hB : Blk (w.alloc (.cells (ps.map B).toArray 5)) w.heap.size (ps.map B).toArray 5 := heap_alloc_new w _
    rw [addr_add, Nat.zero_add, hB.cell j]
    simpa using hu) (oneB ps) (by omega) (by rw [World.size_alloc]; omega) 38
  exact ⟨v', w', fun ty => a, b, c.ofAlloc, fun dd n base' zs h1 h2 h3 => d dd n base' zs h1 h2 (h3.alloc _)⟩
theorem own_keep2 {w w' : World} {L n : Nat} {v : Value} {xs : List Value} {S : Nat → Prop} {e : TypeId} (h : w.ownsRow L e 1 v n xs) (hc : Chg S w w') (hS : ∀ g, v.ownBlock = some g → ¬ S g) : w'.ownsRow L e 1 v n xs := ownsRow_same h (fun g hg => hc.block g (ownsRow_lt h hg).2 (hS g hg))
end Go.Proofs.Ytcnokgphioigoaa
