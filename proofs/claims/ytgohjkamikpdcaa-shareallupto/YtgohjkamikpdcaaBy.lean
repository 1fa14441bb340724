import Derived.Test.YtgohjkamikpdcaaOrd
namespace Go.Proofs.Ytgohjkamikpdcaa
open Go.RowKit Go.PlainAid Go.Sort
set_option linter.unusedVariables false
set_option linter.unusedSimpArgs false
def zeros (n : Nat) : Array Value := madeCells (Value.int .i64 0).cells (n * 1)
theorem zeros_list (n : Nat) : (zeros n).toList = (List.replicate n (0 : Int)).map I := by
  apply List.ext_getElem?
  intro j
  simp only [zeros, madeCells, Nat.mul_one]
  by_cases h : j < n
  · simp [h, Value.cells, I, Nat.mod_one]
  · simp [h]
theorem make_run (n : Nat) (hn : n * 8 ≤ 140737488355328) (w : World) : (Instr.makeSlice 22 (.int .i64 (n : Int)) (.int .i64 (n : Int))).run Try.prog w = .ok (.slice (some ⟨w.heap.size, 0, none⟩) n n) (w.alloc (.cells (zeros n) 3)) := by
  obtain ⟨i0, hi, hz0, hz1, hz2⟩ := info_parts info3
  have hr := run_make (P := Try.prog) w 22 3 i0 _ Try.underlying22 hi hz0 .i64 .i64 n n (by omega) (Int.le_refl _) (by rw [hz2]; omega) (by omega)
  simp only [Int.toNat_natCast] at hr
  rw [hz1] at hr
  exact hr
theorem make_own (n : Nat) (hn : n * 8 ≤ 140737488355328) (w : World) {base : Nat} (hb : base ≤ w.heap.size) : (w.alloc (.cells (zeros n) 3)).ownsRow base 3 1 (.slice (some ⟨w.heap.size, 0, none⟩) n n) n ((List.replicate n (0 : Int)).map I) := by
  have := World.ownsRow_lit (e := 3) (size := 1) w (zeros n) n hb (by unfold maxLen; omega) (by simp [zeros, madeCells])
  rwa [zeros_list] at this
/-- The first k places numbered. -/
def numTo (k n : Nat) : List Int := iotaI k ++ List.replicate (n - k) 0
theorem numTo_zero (n : Nat) : numTo 0 n = List.replicate n 0 := by simp [numTo, iotaI]
theorem numTo_all (n : Nat) : numTo n n = iotaI n := by simp [numTo]
theorem numTo_set {k n : Nat} (h : k < n) : (numTo k n).set k (k : Int) = numTo (k + 1) n := by
  unfold numTo
  rw [List.set_append_right _ _ (by simp [iotaI]), show (iotaI k).length = k by simp [iotaI], Nat.sub_self]
  obtain ⟨m, rfl⟩ : ∃ m, n = k + m + 1 := ⟨n - k - 1, by omega⟩
  rw [show k + m + 1 - k = m + 1 by omega, show k + m + 1 - (k + 1) = m by omega, List.replicate_succ, List.set_cons_zero]
  unfold iotaI
  rw [List.range_succ, List.map_append]
  simp
set_option maxRecDepth 100000 in
set_option maxHeartbeats 1600000 in
theorem byRests_any {b off n c : Nat} {rs : List Int} (w : World) (hl : rs.length = n) (hx : FromI w (some ⟨b, off, none⟩) rs) (h0 : 0 < n) (hn : n ≤ 16) :
    Calls Try.prog 20 #[.slice (some ⟨b, off, none⟩) n c] w fun r w' => ∃ v, r = .returned v ∧ w'.ownsRow w.heap.size 3 1 v n (((ord rs).map fun (i : Nat) => (i : Int)).map I) ∧ Below w.heap.size w w' := by
  have hmk := fun W => make_run n (by omega) W
  have hbs : b < w.heap.size := hx.lt (by omega)
  have HX : Hid (FromI w (some ⟨b, off, none⟩) rs) := hx
  clear hx
  have hO := make_own n (by omega) (w.alloc (.cells #[.slice (some ⟨b, off, none⟩) n c] 22)) (base := w.heap.size) (by simp)
  have hB : Below w.heap.size w ((w.alloc (.cells #[.slice (some ⟨b, off, none⟩) n c] 22)).alloc (.cells (zeros n) 3)) := ((Below.refl _ _).alloc (Nat.le_refl _) _).alloc (by simp) _
  have hK : Blk ((w.alloc (.cells #[.slice (some ⟨b, off, none⟩) n c] 22)).alloc (.cells (zeros n) 3)) w.heap.size #[.slice (some ⟨b, off, none⟩) n c] 22 := Blk.below (B := w.heap.size + 1) (heap_alloc_new w _) ((Below.refl _ _).alloc (by simp) _) (by omega)
  have hsz : (w.alloc (.cells #[.slice (some ⟨b, off, none⟩) n c] 22)).heap.size = w.heap.size + 1 := World.size_alloc _ _
  rw [hsz] at hO
  have HO : Hid _ := hO
  have HB : Hid _ := hB
  have HK : Hid (Blk _ _ _ _) := hK
  clear hO hB hK
  go_enter Try.func20, Try.ntmps20
  go_wp2
  go_loopw [11] (fun i wr => ∃ k : Nat, k ≤ n ∧ i = .int .i64 k ∧ Hid (wr.ownsRow w.heap.size 3 1 (.slice (some ⟨w.heap.size + 1, 0, none⟩) n n) n ((numTo k n).map I)) ∧ Hid (Below w.heap.size w wr) ∧ Hid (Blk wr w.heap.size #[.slice (some ⟨b, off, none⟩) n c] 22)) (fun i _ => n - (intOf i).toNat)
  case atStart => exact ⟨0, Nat.zero_le _, rfl, by rw [numTo_zero]; exact HO, HB, HK⟩
  case round =>
    obtain ⟨k, hk, rfl, HV2, HB2, HK2⟩ := hrel
    by_cases hlt : k < n
    · obtain ⟨hs, hfz, hcl⟩ := own_set HV2.out hlt (k : Int)
      rw [numTo_set hlt] at hs
      have HS : Hid _ := hs
      clear hs hmk HO HB HK
      have hkk : Blk (wr.setCell ⟨w.heap.size + 1, k, none⟩ (.int .i64 (k : Int))) w.heap.size #[.slice (some ⟨b, off, none⟩) n c] 22 := Blk.below (B := w.heap.size + 1) (show Blk wr w.heap.size _ 22 from HK2.out) ((Below.refl _ _).setCell (by simp) _) (by omega)
      have HKK : Hid (Blk _ _ _ _) := hkk
      clear hkk
      go_wp2
      go_roundw
      case rel => exact ⟨k + 1, by omega, by go_num, HS, HB2.out.setCell (by simp) _, HKK⟩
      case measure => simp [intOf]; omega
    · obtain rfl : k = n := by omega
      have hrow := HV2.out
      rw [numTo_all] at hrow
      have hc : Calls Try.prog 38 #[.slice (some ⟨w.heap.size + 1, 0, none⟩) k k, .func (.func 35) #[] #[.pointer (some ⟨w.heap.size, 0, none⟩)]] wr _ := sortF_any hl h0 hn hrow (Blk.cell (show Blk wr w.heap.size #[.slice (some ⟨b, off, none⟩) k c] 22 from HK2.out) 0) (by omega) (by omega) (FromI.all HX.out HB2.out)
      clear hmk hrow HO HB HK HV2
      go_wp2_with (go_at_call 38; refine hc.mono ?_; rintro e w' ⟨rfl, ho, hg⟩; have HH : Hid _ := ho; have HG : Hid (Chg (fun j => j = w.heap.size + 1) wr w') := hg; clear ho hg hc)
      go_ret
      exact ⟨_, rfl, HH.out, HB2.out.trans (HG.out.below HB2.out.size (fun j e => by omega))⟩
end Go.Proofs.Ytgohjkamikpdcaa
