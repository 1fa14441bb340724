import Derived.Test.YtnphkmdanicemaaGreatDoorJN
namespace Go.Proofs.YtnphkmdanicemaaGreatDoor
open Go.RowKit Go.PlainAid Go.MapKept
set_option linter.unusedVariables false
set_option linter.unusedSimpArgs false
def flatR (rs : List (Int × Int)) : List Value := rs.flatMap fun p => [I p.1, I p.2]
theorem flatR_cons (p : Int × Int) (rs : List (Int × Int)) : flatR (p :: rs) = I p.1 :: I p.2 :: flatR rs := rfl
theorem flatR_length (rs : List (Int × Int)) : (flatR rs).length = rs.length * 2 := by
  induction rs with
  | nil => rfl
  | cons p rs ih => rw [flatR_cons]; simp only [List.length_cons, ih]; omega
theorem flatR_set {rs : List (Int × Int)} {k : Nat} (h : k < rs.length) (a b : Int) : ((flatR rs).set (k * 2) (.int .i64 a)).set (k * 2 + 1) (.int .i64 b) = flatR (rs.set k (a, b)) := by
  induction rs generalizing k with
  | nil => simp at h
  | cons q rs ih =>
    cases k with
    | zero => rfl
    | succ k =>
      have := ih (k := k) (by simpa using h)
      rw [flatR_cons, show (k + 1) * 2 = k * 2 + 1 + 1 by omega]
      simp only [List.set_cons_succ, flatR_cons, this]
theorem info44 : (Tryz.prog.info? 37).map (fun i => (i.zero, i.size, i.bytes)) = some (some (.agg #[.int .i64 0, .int .i64 0]), 2, 16) := by kernel_rfl
theorem flatR_zero (n : Nat) : flatR (List.replicate n (0, 0)) = List.replicate (n * 2) (.int .i64 0) := by
  induction n with
  | zero => rfl
  | succ n ih =>
    rw [List.replicate_succ, flatR_cons, ih, show (n + 1) * 2 = n * 2 + 1 + 1 by omega]
    rfl
theorem makeR_run (n : Nat) (hn : n ≤ 1000) (w : World) : (Instr.makeSlice 94 (.int .i64 (n : Int)) (.int .i64 (n : Int))).run Tryz.prog w = .ok (.slice (some ⟨w.heap.size, 0, none⟩) n n) (w.alloc (.cells (flatR (List.replicate n (0, 0))).toArray 37)) := by
  obtain ⟨i0, hi, hz0, hz1, hz2⟩ := info_parts info44
  have hr := run_make (P := Tryz.prog) w 94 37 i0 _ Tryz.underlying94 hi hz0 .i64 .i64 n n (by omega) (Int.le_refl _) (by rw [hz2]; omega) (by omega)
  simp only [Int.toNat_natCast] at hr
  rw [hz1] at hr
  rw [hr]
  have e : madeCells (Value.agg #[.int .i64 0, .int .i64 0]).cells (n * 2) = (flatR (List.replicate n (0, 0))).toArray := by
    rw [flatR_zero]
    apply Array.ext_getElem?
    intro j
    simp only [madeCells, Value.cells]
    by_cases hj : j < n * 2
    · have h2 : j % 2 = 0 ∨ j % 2 = 1 := by omega
      rcases h2 with h2 | h2 <;> simp [hj, h2]
    · simp [hj]
  rw [e]
/-- What is known of a name, replica by replica. -/
def knownL (nm : List UInt8) (L : List Ent) (n : Nat) : List (Int × Int) := (List.range n).map fun (k : Nat) => ((lookD k nm L).d, (lookD k nm L).u)
def knownTo (nm : List UInt8) (L : List Ent) (q n : Nat) : List (Int × Int) := knownL nm L q ++ List.replicate (n - q) (0, 0)
theorem knownTo_step {nm : List UInt8} {L : List Ent} {q n : Nat} (h : q < n) : (knownTo nm L q n).set q ((lookD q nm L).d, (lookD q nm L).u) = knownTo nm L (q + 1) n := by
  unfold knownTo
  have hl : (knownL nm L q).length = q := by simp [knownL]
  rw [List.set_append_right _ _ (by omega), hl, Nat.sub_self, show n - q = (n - (q + 1)) + 1 by omega, List.replicate_succ, List.set_cons_zero]
  unfold knownL
  rw [List.range_succ, List.map_append, List.append_assoc]
  rfl
theorem knownTo_len {nm : List UInt8} {L : List Ent} {q n : Nat} (h : q ≤ n) : (knownTo nm L q n).length = n := by simp [knownTo, knownL]; omega
set_option maxRecDepth 100000 in
set_option maxHeartbeats 3200000 in
theorem known_any {hb mb N : Nat} {me : Int} {L : List Ent} (nm : List UInt8) (w : World) (hV : Vw hb mb me N L w) (hN : N ≤ 16) :
    Calls Tryz.prog 41 #[.pointer (some ⟨hb, 0, none⟩), .string ⟨nm.toArray⟩] w fun e w' => ∃ g, e = .returned (.slice (some ⟨g, 0, none⟩) N N) ∧ w.heap.size ≤ g ∧ Blk w' g (flatR (knownL nm L N)).toArray 37 ∧ Below w.heap.size w w' := by
  have k1 := hV.c1
  have hmk := makeR_run N (by omega)
  have HV : Hid _ := hV
  have H0 : Hid (Blk (w.alloc (.cells (flatR (List.replicate N (0, 0))).toArray 37)) w.heap.size (flatR (List.replicate N (0, 0))).toArray 37) := heap_alloc_new w _
  have HB0 : Hid (Below w.heap.size w (w.alloc (.cells (flatR (List.replicate N (0, 0))).toArray 37))) := (Below.refl _ _).alloc (Nat.le_refl _) _
  clear hV
  go_enter Tryz.func41, Tryz.ntmps41
  go_wp2_with fail
  generalize w.alloc (.cells (flatR (List.replicate N (0, 0))).toArray 37) = W1 at *
  obtain ⟨g, hg⟩ : ∃ g, g = w.heap.size := ⟨_, rfl⟩
  rw [← hg] at H0 ⊢
  have HG : Hid _ := hg
  clear hg hmk k1
  go_loopw [14] (fun i wr => ∃ q : Nat, q ≤ N ∧ i = .int .i64 q ∧ Blk wr g (flatR (knownTo nm L q N)).toArray 37 ∧ Below w.heap.size w wr) (fun i _ => N - (intOf i).toNat)
  case atStart => exact ⟨0, Nat.zero_le _, rfl, by simpa [knownTo, knownL] using H0.out, HB0.out⟩
  case round =>
    obtain ⟨q, hq, rfl, hblk, hbel⟩ := hrel
    by_cases hlt : q < N
    · have hV2 := HV.out.more hbel
      have k2 := hV2.c2
      have hlk := hV2.map.look_ok (q : Int) nm false
      simp only [cond_false] at hlk
      have hst := knownTo_step (nm := nm) (L := L) hlt
      have hln := knownTo_len (nm := nm) (L := L) hq
      have hfl := fld4 (lookD q nm L)
      have hsz : (flatR (knownTo nm L q N)).length = N * 2 := by rw [flatR_length, hln]
      have HST : Hid _ := hst
      have HLN : Hid _ := hln
      generalize lookD q nm L = e0 at *
      have f0 := hblk.frozen (q * 2)
      have f1 := hblk.frozen (q * 2 + 1)
      obtain ⟨x0, c0⟩ : ∃ x, wr.cell? ⟨g, q * 2, none⟩ = some x := ⟨_, (hblk.cell (q * 2)).trans (Array.getElem?_eq_getElem (by simp [hsz]; omega))⟩
      obtain ⟨x1, c1⟩ : ∃ x, wr.cell? ⟨g, q * 2 + 1, none⟩ = some x := ⟨_, (hblk.cell (q * 2 + 1)).trans (Array.getElem?_eq_getElem (by simp [hsz]; omega))⟩
      have hb2 : Blk ((wr.setCell ⟨g, q * 2, none⟩ (.int .i64 e0.d)).setCell ⟨g, q * 2 + 1, none⟩ (.int .i64 e0.u)) g (flatR (knownTo nm L (q + 1) N)).toArray 37 := by
        have := (hblk.set (q * 2) (.int .i64 e0.d)).set (q * 2 + 1) (.int .i64 e0.u)
        rw [List.setIfInBounds_toArray, List.setIfInBounds_toArray, flatR_set (by rw [hln]; exact hlt), hst] at this
        exact this
      have HB2 : Hid _ := hb2
      have HBE : Hid (Below w.heap.size w ((wr.setCell ⟨g, q * 2, none⟩ (.int .i64 e0.d)).setCell ⟨g, q * 2 + 1, none⟩ (.int .i64 e0.u))) := hbel.trans ⟨rfl, rfl, rfl, by simp [World.setCell], fun k hk => (Below.heap_setCell _ _ _ _ (by rw [HG.out]; exact Nat.ne_of_lt hk)).trans (Below.heap_setCell _ _ _ _ (by rw [HG.out]; exact Nat.ne_of_lt hk))⟩
      unfold keyV viewV at hlk
      unfold viewV at hfl
      clear hb2 hblk hbel hV2 hst hln hsz
      go_wp2_with fail
      go_roundw
      case rel => exact ⟨q + 1, by omega, by go_num, HB2.out, HBE.out⟩
      case measure => simp [intOf]; omega
    · obtain rfl : q = N := by omega
      have HB : Hid _ := hblk
      have HBE : Hid _ := hbel
      clear hblk hbel
      go_wp2_with fail
      go_ret
      refine ⟨g, rfl, by rw [HG.out]; exact Nat.le_refl _, ?_, HBE.out⟩
      have h2 := HB.out
      simp only [knownTo, Nat.sub_self, List.replicate_zero, List.append_nil] at h2
      exact h2
end Go.Proofs.YtnphkmdanicemaaGreatDoor
