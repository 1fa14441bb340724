import Derived.Test.YtifgmefdlmjocaaPld
namespace Go.Proofs.Ytifgmefdlmjocaa
open Go.RowKit Go.PlainAid Go.MapKept
set_option linter.unusedVariables false
set_option linter.unusedSimpArgs false
set_option maxRecDepth 100000 in
set_option maxHeartbeats 1600000 in
theorem rnew_ok (me n : Int) (w : World) (h : newCode me n = 0) :
    Calls Try.prog 35 #[.int .i64 me, .int .i64 n] w fun e w' => e = .returned (.tuple #[.pointer (some ⟨w.heap.size, 0, none⟩), .int .i64 0]) ∧ Blk w' w.heap.size #[.int .i64 me, .int .i64 n, .slice none 0 0] 116 ∧ Below w.heap.size w w' ∧ w'.heap.size = w.heap.size + 1 := by
  have h2 : ¬ n < 2 ∧ ¬ 16 < n ∧ ¬ me < 0 ∧ ¬ n ≤ me := by
    unfold newCode at h
    split at h
    · cases h
    · split at h
      · cases h
      · omega
  obtain ⟨a1, a2, a3, a4⟩ := h2
  clear h
  go_enter Try.func35, Try.ntmps35
  go_wp2_with fail
  go_ret2
  exact ⟨rfl, heap_alloc_new w _, by go_grown, by simp⟩
set_option maxRecDepth 100000 in
set_option maxHeartbeats 1600000 in
theorem rnew_no (me n : Int) (w : World) (h : newCode me n ≠ 0) :
    Calls Try.prog 35 #[.int .i64 me, .int .i64 n] w fun e w' => e = .returned (.tuple #[.pointer none, .int .i64 (newCode me n)]) ∧ w' = w := by
  by_cases h1 : n < 2
  · have hc : newCode me n = 1 := by unfold newCode; rw [if_pos (Or.inl h1)]
    rw [hc]
    clear h hc
    go_enter Try.func35, Try.ntmps35
    go_wp2_with fail
    go_ret2
    exact ⟨rfl, rfl⟩
  by_cases h2 : 16 < n
  · have hc : newCode me n = 1 := by unfold newCode; rw [if_pos (Or.inr h2)]
    rw [hc]
    clear h hc
    go_enter Try.func35, Try.ntmps35
    go_wp2_with fail
    go_ret2
    exact ⟨rfl, rfl⟩
  have hn : ¬ (n < 2 ∨ 16 < n) := fun e => e.elim h1 h2
  by_cases h3 : me < 0
  · have hc : newCode me n = 3 := by unfold newCode; rw [if_neg hn, if_pos (Or.inl h3)]
    rw [hc]
    clear h hc hn
    go_enter Try.func35, Try.ntmps35
    go_wp2_with fail
    go_ret2
    exact ⟨rfl, rfl⟩
  by_cases h4 : n ≤ me
  · have hc : newCode me n = 3 := by unfold newCode; rw [if_neg hn, if_pos (Or.inr h4)]
    rw [hc]
    clear h hc hn
    go_enter Try.func35, Try.ntmps35
    go_wp2_with fail
    go_ret2
    exact ⟨rfl, rfl⟩
  · exact absurd (by unfold newCode; rw [if_neg hn, if_neg (fun e => e.elim h3 h4)]) h
set_option maxRecDepth 100000 in
set_option maxHeartbeats 1600000 in
theorem made_pp (me : Int) (n : Nat) (w : World) (h : newCode me n = 0) :
    Calls Try.prog 21 #[.int .i64 me, .int .i64 n] w fun e w' => ∃ pb hb mb rb bk, e = .returned (.tuple #[.pointer (some ⟨pb, 0, none⟩), .bool true]) ∧ PP w.heap.size pb hb mb rb 0 me n (.slice none 0 0) (.slice none 0 0) (.pointer (some ⟨bk, 0, none⟩)) (.slice none 0 0) [] [] w' ∧ Blk w' bk #[.slice none 0 0, .slice none 0 0] 90 ∧ w.heap.size ≤ pb ∧ w.heap.size ≤ hb ∧ w.heap.size ≤ mb ∧ w.heap.size ≤ bk ∧ Below w.heap.size w w' := by
  have HN : Hid _ := new_any me n w h
  have HR : Hid (∀ w, _) := fun w => rnew_ok me n w h
  clear h
  go_enter Try.func21, Try.ntmps21
  go_wp2_with fail
  refine Calls.mono HN.out ?_
  rintro e w1 ⟨rfl, hV1, hb1, hs1⟩
  have HV1 : Hid (Vw (w.heap.size + 1) w.heap.size me n [] w1) := hV1
  have HB1 : Hid (Below w.heap.size w w1) := hb1
  clear hV1 hb1 hs1 HN
  go_wp2_with fail
  refine Calls.mono (HR.out _) ?_
  rintro e w2 ⟨rfl, hB2, hb2, hs2⟩
  have HV2 : Hid (Vw (w.heap.size + 1) w.heap.size me n [] w2) := HV1.out.more hb2
  have HB2 : Hid (Below w.heap.size w w2) := HB1.out.trans (hb2.mono HB1.out.size)
  have HBR : Hid (Blk w2 w1.heap.size #[.int .i64 me, .int .i64 n, .slice none 0 0] 116) := hB2
  have HS1 : Hid (w.heap.size ≤ w1.heap.size) := HB1.out.size
  clear hb2 HV1 HB1 HR hB2 hs2
  go_wp2_with fail
  go_ret2
  obtain ⟨Z, hZ⟩ : ∃ Z, Z = (w2.alloc (.cells #[.slice none 0 0, .slice none 0 0] 90)).alloc (.cells #[.pointer (some ⟨w.heap.size + 1, 0, none⟩), .pointer (some ⟨w1.heap.size, 0, none⟩), .slice none 0 0, .slice none 0 0, .pointer (some ⟨w2.heap.size, 0, none⟩)] 68) := ⟨_, rfl⟩
  have hg : Below w2.heap.size w2 Z := by rw [hZ]; exact ((Below.refl _ _).alloc (Nat.le_refl _) _).alloc (by simp) _
  have hBk : Blk Z w2.heap.size #[.slice none 0 0, .slice none 0 0] 90 := by rw [hZ]; exact blk_alloc (heap_alloc_new w2 _) _
  have hBp : Blk Z (w2.heap.size + 1) #[.pointer (some ⟨w.heap.size + 1, 0, none⟩), .pointer (some ⟨w1.heap.size, 0, none⟩), .slice none 0 0, .slice none 0 0, .pointer (some ⟨w2.heap.size, 0, none⟩)] 68 := by
    rw [hZ]
    have := heap_alloc_new (w2.alloc (.cells #[.slice none 0 0, .slice none 0 0] 90)) (.cells #[.pointer (some ⟨w.heap.size + 1, 0, none⟩), .pointer (some ⟨w1.heap.size, 0, none⟩), .slice none 0 0, .slice none 0 0, .pointer (some ⟨w2.heap.size, 0, none⟩)] 68)
    rwa [World.size_alloc] at this
  have hw2 := HB2.out.size
  refine ⟨w2.heap.size + 1, w.heap.size + 1, w.heap.size, w1.heap.size, w2.heap.size, rfl, ?_, ?_, by omega, by omega, Nat.le_refl _, hw2, ?_⟩
  · refine ⟨?_, ?_, ?_, AgC.new _ _, Nat.zero_le _⟩
    · rw [← hZ]; exact hBp
    · rw [← hZ]; exact HV2.out.more hg
    · rw [← hZ]; exact ⟨HBR.out.below hg HBR.out.lt, World.ownsRow_nil _ _ _ _, HS1.out⟩
  · rw [← hZ]; exact hBk
  · rw [← hZ]; exact HB2.out.trans (hg.mono HB2.out.size)
set_option maxRecDepth 100000 in
set_option maxHeartbeats 1600000 in
theorem made_none (me n : Int) (w : World) (h : newCode me n ≠ 0) :
    Calls Try.prog 21 #[.int .i64 me, .int .i64 n] w fun e w' => e = .returned (.tuple #[.pointer none, .bool true]) ∧ w' = w := by
  have HN : Hid _ := new_no me n w h
  have HR : Hid _ := rnew_no me n w h
  generalize newCode me n = cd at *
  clear h
  go_enter Try.func21, Try.ntmps21
  go_wp2_with fail
  refine Calls.mono HN.out ?_
  rintro e w1 ⟨rfl, hw1⟩
  replace hw1 := hw1.symm
  subst hw1
  go_wp2_with fail
  refine Calls.mono HR.out ?_
  rintro e w1 ⟨rfl, hw1⟩
  replace hw1 := hw1.symm
  subst hw1
  go_wp2_with fail
  go_ret2
  exact ⟨rfl, rfl⟩
set_option maxRecDepth 100000 in
set_option maxHeartbeats 6400000 in
theorem apart_nil (bk : Nat) (w : World) (hB : Blk w bk #[.slice none 0 0, .slice none 0 0] 90) :
    Calls Try.prog 34 #[.pointer (some ⟨bk, 0, none⟩)] w fun e w' => e = .returned (.bool true) ∧ w' = w := by
  have c0 : w.cell? ⟨bk, 0, none⟩ = some (.slice none 0 0) := hB.cell 0
  have c1 : w.cell? ⟨bk, 1, none⟩ = some (.slice none 0 0) := hB.cell 1
  clear hB
  go_enter Try.func34, Try.ntmps34
  go_wp2_with fail
  go_loopw [3, 4] (fun b i wr => b = .bool true ∧ i = .int .i64 0 ∧ wr = w) (fun _ _ _ => 0)
  case atStart => exact ⟨rfl, rfl, rfl⟩
  case round =>
    obtain ⟨rfl, rfl, hwr⟩ := hrel
    replace hwr := hwr.symm
    subst hwr
    go_wp2_with fail
    go_loopw [3, 5] (fun b i wr => b = .bool true ∧ i = .int .i64 0 ∧ wr = w) (fun _ _ _ => 0)
    case atStart => exact ⟨rfl, rfl, rfl⟩
    case round =>
      obtain ⟨rfl, rfl, hwr⟩ := hrel
      replace hwr := hwr.symm
      subst hwr
      go_wp2_with fail
      go_loopw [6] (fun i wr => i = .int .i64 0 ∧ wr = w) (fun _ _ => 0)
      case atStart => exact ⟨rfl, rfl⟩
      case round =>
        obtain ⟨rfl, hwr⟩ := hrel
        replace hwr := hwr.symm
        subst hwr
        go_wp2_with fail
        go_loopw [8] (fun i wr => i = .int .i64 0 ∧ wr = w) (fun _ _ => 0)
        case atStart => exact ⟨rfl, rfl⟩
        case round =>
          obtain ⟨rfl, hwr⟩ := hrel
          replace hwr := hwr.symm
          subst hwr
          go_wp2_with fail
          go_loopw [10] (fun i wr => i = .int .i64 0 ∧ wr = w) (fun _ _ => 0)
          case atStart => exact ⟨rfl, rfl⟩
          case round =>
            obtain ⟨rfl, hwr⟩ := hrel
            replace hwr := hwr.symm
            subst hwr
            go_wp2_with fail
            go_loopw [13] (fun i wr => i = .int .i64 0 ∧ wr = w) (fun _ _ => 0)
            case atStart => exact ⟨rfl, rfl⟩
            case round =>
              obtain ⟨rfl, hwr⟩ := hrel
              replace hwr := hwr.symm
              subst hwr
              go_wp2_with fail
              go_loopw [3, 16] (fun b i wr => b = .bool true ∧ i = .int .i64 0 ∧ wr = w) (fun _ _ _ => 0)
              case atStart => exact ⟨rfl, rfl, rfl⟩
              case round =>
                obtain ⟨rfl, rfl, hwr⟩ := hrel
                replace hwr := hwr.symm
                subst hwr
                go_wp2_with fail
                go_loopw [3, 17] (fun b i wr => b = .bool true ∧ i = .int .i64 0 ∧ wr = w) (fun _ _ _ => 0)
                case atStart => exact ⟨rfl, rfl, rfl⟩
                case round =>
                  obtain ⟨rfl, rfl, hwr⟩ := hrel
                  replace hwr := hwr.symm
                  subst hwr
                  go_wp2_with fail
                  go_ret
                  exact ⟨rfl, rfl⟩
end Go.Proofs.Ytifgmefdlmjocaa
