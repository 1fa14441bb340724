import Derived.Test.YtjmbhaoehfdpoaaDoorVKp
namespace Go.Proofs.YtjmbhaoehfdpoaaDoor
open Go.RowKit Go.PlainAid Go.MapKept
set_option linter.unusedVariables false
set_option linter.unusedSimpArgs false
def newCode (me n : Int) : Int := if n < 2 ∨ 16 < n then 1 else if me < 0 ∨ n ≤ me then 3 else 0
set_option maxRecDepth 100000 in
set_option maxHeartbeats 1600000 in
theorem new_any (me n : Int) (w : World) (h : newCode me n = 0) :
    Calls Tryd.prog 11 #[.int .i64 me, .int .i64 n] w fun e w' => e = .returned (.tuple #[.pointer (some ⟨w.heap.size + 1, 0, none⟩), .int .i64 0]) ∧ Vw (w.heap.size + 1) w.heap.size me n [] w' ∧ Below w.heap.size w w' ∧ w'.heap.size = w.heap.size + 2 := by
  have h2 : ¬ n < 2 ∧ ¬ 16 < n ∧ ¬ me < 0 ∧ ¬ n ≤ me := by
    unfold newCode at h
    split at h
    · cases h
    · split at h
      · cases h
      · omega
  obtain ⟨a1, a2, a3, a4⟩ := h2
  have hmm := @run_makeMap Tryd.prog
  clear h
  go_enter Tryd.func11, Tryd.ntmps11
  go_wp2_with fail
  go_ret2
  have g1 : Below w.heap.size w (w.alloc (.map #[] 0)) := (Below.refl _ _).alloc (Nat.le_refl _) _
  refine ⟨rfl, ⟨?_, ?_⟩, g1.alloc (by simp) _, by simp⟩
  · have := heap_alloc_new (w.alloc (.map #[] 0)) (.cells #[.int .i64 me, .int .i64 n, .map (some w.heap.size)] 66)
    rw [World.size_alloc] at this
    exact this
  · exact (HMap.made w).same (((Below.refl _ _).alloc (Nat.le_refl _) _).block _ (by simp))
set_option maxRecDepth 100000 in
set_option maxHeartbeats 1600000 in
theorem new_no (me n : Int) (w : World) (h : newCode me n ≠ 0) :
    Calls Tryd.prog 11 #[.int .i64 me, .int .i64 n] w fun e w' => e = .returned (.tuple #[.pointer none, .int .i64 (newCode me n)]) ∧ w' = w := by
  by_cases h1 : n < 2
  · have hc : newCode me n = 1 := by unfold newCode; rw [if_pos (Or.inl h1)]
    rw [hc]
    clear h hc
    go_enter Tryd.func11, Tryd.ntmps11
    go_wp2_with fail
    go_ret2
    exact ⟨rfl, rfl⟩
  by_cases h2 : 16 < n
  · have hc : newCode me n = 1 := by unfold newCode; rw [if_pos (Or.inr h2)]
    rw [hc]
    clear h hc
    go_enter Tryd.func11, Tryd.ntmps11
    go_wp2_with fail
    go_ret2
    exact ⟨rfl, rfl⟩
  have hn : ¬ (n < 2 ∨ 16 < n) := fun e => e.elim h1 h2
  by_cases h3 : me < 0
  · have hc : newCode me n = 3 := by unfold newCode; rw [if_neg hn, if_pos (Or.inl h3)]
    rw [hc]
    clear h hc hn
    go_enter Tryd.func11, Tryd.ntmps11
    go_wp2_with fail
    go_ret2
    exact ⟨rfl, rfl⟩
  by_cases h4 : n ≤ me
  · have hc : newCode me n = 3 := by unfold newCode; rw [if_neg hn, if_pos (Or.inr h4)]
    rw [hc]
    clear h hc hn
    go_enter Tryd.func11, Tryd.ntmps11
    go_wp2_with fail
    go_ret2
    exact ⟨rfl, rfl⟩
  · exact absurd (by unfold newCode; rw [if_neg hn, if_neg (fun e => e.elim h3 h4)]) h
/-- About: the sum of the Downs, and whether anybody has said anything. -/
def aboutS (n : List UInt8) (L : List Ent) : Nat → Int
  | 0 => 0
  | k + 1 => aboutS n L k + (lookD k n L).d
def aboutK (n : List UInt8) (L : List Ent) : Nat → Bool
  | 0 => false
  | k + 1 => aboutK n L k || (look k n L).isSome
theorem aboutS_le {n : List UInt8} {L : List Ent} (h : ∀ e ∈ L, 0 ≤ e.d ∧ e.d ≤ 1099511627776) : ∀ k, 0 ≤ aboutS n L k ∧ aboutS n L k ≤ 1099511627776 * k
  | 0 => by simp [aboutS]
  | k + 1 => by
    have ih := aboutS_le (n := n) h k
    have hd : 0 ≤ (lookD k n L).d ∧ (lookD k n L).d ≤ 1099511627776 := by
      unfold lookD
      cases hq : look k n L with
      | none => exact ⟨Int.le_refl _, by decide⟩
      | some e => exact h e (List.mem_of_find?_eq_some hq)
    simp only [aboutS]
    omega
set_option maxRecDepth 100000 in
set_option maxHeartbeats 1600000 in
theorem about_any {hb mb N : Nat} {me : Int} {L : List Ent} (n : List UInt8) (w : World) (hV : Vw hb mb me N L w) (hN : N ≤ 16) (hd : ∀ e ∈ L, 0 ≤ e.d ∧ e.d ≤ 1099511627776) :
    Calls Tryd.prog 45 #[.pointer (some ⟨hb, 0, none⟩), .string ⟨n.toArray⟩] w fun e w' => e = .returned (.tuple #[.int .i64 (aboutS n L N), .bool (aboutK n L N)]) ∧ Below w.heap.size w w' := by
  have k1 := hV.c1
  have hle := fun k => aboutS_le (n := n) hd k
  have HLE : Hid _ := hle
  have HV : Hid _ := hV
  clear hle hV hd
  go_enter Tryd.func45, Tryd.ntmps45
  go_wp2_with fail
  go_loopw [6, 7, 15] (fun s b i wr => ∃ q : Nat, q ≤ N ∧ i = .int .i64 q ∧ s = .int .i64 (aboutS n L q) ∧ b = .bool (aboutK n L q) ∧ Below w.heap.size w wr) (fun _ _ i _ => N - (intOf i).toNat)
  case atStart => exact ⟨0, Nat.zero_le _, rfl, rfl, rfl, Below.refl _ _⟩
  case round =>
    obtain ⟨q, hq, rfl, rfl, rfl, hbel⟩ := hrel
    by_cases hlt : q < N
    · have hV2 := HV.out.more hbel
      have k2 := hV2.c2
      have hlk := hV2.map.look_ok (q : Int) n true
      simp only [cond_true] at hlk
      have l1 := HLE.out q
      have l2 := HLE.out (q + 1)
      have HA : Hid (aboutS n L (q + 1) = aboutS n L q + (lookD q n L).d) := rfl
      have HK : Hid (aboutK n L (q + 1) = (aboutK n L q || (look q n L).isSome)) := rfl
      rw [HA.out] at l2
      generalize aboutS n L q = s0 at *
      generalize aboutK n L q = b0 at *
      generalize (look q n L).isSome = is0 at *
      generalize lookD q n L = e0 at *
      have hw : IntKind.i64.wrap (s0 + e0.d) = s0 + e0.d := by rw [IntKind.wrap_i64]; omega
      have HB : Hid _ := hbel
      clear hbel hV2 l1 l2
      unfold keyV viewV at hlk
      have hgr : Below wr.heap.size wr (wr.alloc (.cells #[.string ⟨e0.n.toArray⟩, .int .i64 e0.c, .int .i64 e0.rc, .int .i64 e0.v, .int .i64 e0.d, .int .i64 e0.u, .int .i64 e0.h] 86)) := (Below.refl _ _).alloc (Nat.le_refl _) _
      have HG : Hid _ := hgr
      clear hgr
      cases b0
      · go_wp2_with fail
        go_roundw
        case rel => exact ⟨q + 1, by omega, by go_num, by rw [HA.out], by rw [HK.out]; rfl, HB.out.trans (HG.out.mono HB.out.size)⟩
        case measure => simp [intOf]; omega
      · go_wp2_with fail
        go_roundw
        case rel => exact ⟨q + 1, by omega, by go_num, by rw [HA.out], by rw [HK.out]; rfl, HB.out.trans (HG.out.mono HB.out.size)⟩
        case measure => simp [intOf]; omega
    · obtain rfl : q = N := by omega
      have HB : Hid _ := hbel
      clear hbel
      go_wp2_with fail
      go_ret2
      exact ⟨rfl, HB.out⟩
end Go.Proofs.YtjmbhaoehfdpoaaDoor
