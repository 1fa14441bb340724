import Derived.Test.YtnphkmdanicemaaGreatDoorVSm
namespace Go.Proofs.YtnphkmdanicemaaGreatDoor
open Go.RowKit Go.PlainAid
set_option linter.unusedVariables false
set_option linter.unusedSimpArgs false
def okB (b : UInt8) : Bool := decide (33 ≤ b.toNat) && decide (b.toNat ≤ 126)
def nameB (n : List UInt8) : Bool := decide (1 ≤ n.length) && decide (n.length ≤ 16) && n.all okB
def fitsL : Int → List Int → Bool
  | _, [] => true
  | r, p :: ps => if p < 0 ∨ r < p then false else fitsL (r - p) ps
def Ent.right (e : Ent) : Bool := nameB e.n && decide (1 ≤ e.c) && decide (e.c ≤ 1099511627776) && decide (0 ≤ e.rc) && decide (1 ≤ e.v) && fitsL e.c [e.d, e.u, e.h]
set_option maxRecDepth 100000 in
set_option maxHeartbeats 1600000 in
theorem rightName_any (n : List UInt8) (W : World) (hlim : n.length ≤ 140737488355328) : Calls Tryz.prog 68 #[.string ⟨n.toArray⟩] W fun e w' => e = .returned (.bool (nameB n)) ∧ w' = W := by
  have hsz : (⟨n.toArray⟩ : ByteArray).size = n.length := rfl
  by_cases h1 : n.length < 1
  · have hr : nameB n = false := by simp [nameB]; omega
    go_enter Tryz.func68, Tryz.ntmps68
    go_wp2_with fail
    go_ret
    exact ⟨by first | rfl | (rw [hr]; rfl) | simp [hr], rfl⟩
  by_cases h2 : 16 < n.length
  · have hr : nameB n = false := by simp [nameB]; omega
    go_enter Tryz.func68, Tryz.ntmps68
    go_wp2_with fail
    go_ret
    exact ⟨by first | rfl | (rw [hr]; rfl) | simp [hr], rfl⟩
  go_enter Tryz.func68, Tryz.ntmps68
  go_wp2_with fail
  go_loopw [14] (fun i wr => ∃ q : Nat, q ≤ n.length ∧ i = .int .i64 q ∧ (∀ x ∈ n.take q, okB x = true) ∧ wr = W) (fun i _ => n.length - (intOf i).toNat)
  case atStart => exact ⟨0, Nat.zero_le _, rfl, by simp, rfl⟩
  case round =>
    obtain ⟨q, hq, rfl, hpre, rfl⟩ := hrel
    by_cases hlt : q < n.length
    · obtain ⟨b, hbb⟩ : ∃ b, b = (⟨n.toArray⟩ : ByteArray)[q]'hlt := ⟨_, rfl⟩
      have hb : n[q]? = some b := by rw [hbb]; exact List.getElem?_eq_getElem hlt
      have HP : Hid _ := hpre
      have HB : Hid _ := hb
      clear hpre hb
      by_cases c1 : b.toNat < 33
      · have hr : nameB n = false := by
          have hall : n.all okB = false := by
            apply Bool.eq_false_iff.2
            intro h
            have := List.all_eq_true.1 h b (List.mem_of_getElem? HB.out)
            simp [okB] at this
            omega
          simp [nameB, hall]
        rw [hbb] at c1
        clear hbb
        go_wp2_with fail
        go_ret
        exact ⟨by first | rfl | (rw [hr]; rfl) | simp [hr], rfl⟩
      by_cases c2 : 126 < b.toNat
      · have hr : nameB n = false := by
          have hall : n.all okB = false := by
            apply Bool.eq_false_iff.2
            intro h
            have := List.all_eq_true.1 h b (List.mem_of_getElem? HB.out)
            simp [okB] at this
            omega
          simp [nameB, hall]
        rw [hbb] at c1 c2
        clear hbb
        go_wp2_with fail
        go_ret
        exact ⟨by first | rfl | (rw [hr]; rfl) | simp [hr], rfl⟩
      · have hok : okB b = true := by simp [okB]; omega
        have HOK : Hid _ := hok
        rw [hbb] at c1 c2
        clear hok
        go_wp2_with fail
        go_roundw
        case rel => exact ⟨q + 1, by omega, by go_num, by
          intro x hx
          rw [List.take_add_one, HB.out] at hx
          rcases List.mem_append.1 hx with h | h
          · exact HP.out x h
          · simp at h; subst h; exact HOK.out, by first | rfl | trivial⟩
        case measure => simp [intOf]; omega
    · have hr : nameB n = true := by
        have : n.take q = n := List.take_of_length_le (by omega)
        rw [this] at hpre
        simp [nameB]
        exact ⟨by omega, hpre⟩
      clear hpre
      go_wp2_with fail
      go_ret
      exact ⟨by first | rfl | (rw [hr]; rfl) | simp [hr], rfl⟩
set_option maxRecDepth 100000 in
set_option maxHeartbeats 1600000 in
theorem fits_any (room : Int) (ao : Option Addr) (N cap : Nat) (zs : List Int) (W : World) (hl : zs.length = N) (hN : N ≤ 100) (hf : FromI W ao zs) (h1 : -9223372036854775808 ≤ room) (h2 : room ≤ 9223372036854775807) :
    Calls Tryz.prog 69 #[.int .i64 room, .slice ao N cap] W fun e w' => e = .returned (.bool (fitsL room zs)) ∧ w' = W := by
  have HL : Hid _ := hl
  have HF : Hid _ := hf
  clear hl hf
  go_enter Tryz.func69, Tryz.ntmps69
  go_wp2_with fail
  go_loopw [0, 9] (fun rm i wr => ∃ (q : Nat) (r : Int), q ≤ N ∧ i = .int .i64 q ∧ rm = .int .i64 r ∧ fitsL room zs = fitsL r (zs.drop q) ∧ -9223372036854775808 ≤ r ∧ r ≤ 9223372036854775807 ∧ wr = W) (fun _ i _ => N - (intOf i).toNat)
  case atStart => exact ⟨0, room, Nat.zero_le _, rfl, rfl, rfl, h1, h2, rfl⟩
  case round =>
    obtain ⟨q, r, hq, rfl, rfl, hpre, r1, r2, rfl⟩ := hrel
    have HP : Hid _ := hpre
    clear hpre h1 h2
    by_cases hlt : q < N
    · obtain ⟨p, hp⟩ : ∃ p, zs[q]? = some p := ⟨zs[q]'(by rw [HL.out]; exact hlt), List.getElem?_eq_getElem _⟩
      obtain ⟨b, off, rfl, hc⟩ := HF.out (by rw [HL.out]; omega)
      have hcp := hc q p hp
      have hdr : zs.drop q = p :: zs.drop (q + 1) := by
        obtain ⟨h, h'⟩ := List.getElem?_eq_some_iff.1 hp
        rw [← h', ← List.drop_eq_getElem_cons]
      have HD : Hid _ := hdr
      clear hc hp hdr
      by_cases c1 : p < 0
      · go_wp2_with fail
        go_ret
        refine ⟨?_, rfl⟩
        rw [HP.out, HD.out]
        simp [fitsL, c1]
      by_cases c2 : r < p
      · go_wp2_with fail
        go_ret
        refine ⟨?_, rfl⟩
        rw [HP.out, HD.out]
        simp [fitsL, c2]
      · have hw : IntKind.i64.wrap (r - p) = r - p := by rw [IntKind.wrap_i64]; omega
        go_wp2_with fail
        go_roundw
        case rel => exact ⟨q + 1, r - p, by omega, by go_num, rfl, by rw [HP.out, HD.out]; simp [fitsL, c1, c2], by omega, by omega, by first | rfl | trivial⟩
        case measure => simp [intOf]; omega
    · go_wp2_with fail
      go_ret
      refine ⟨?_, rfl⟩
      rw [HP.out, List.drop_of_length_le (by rw [HL.out]; omega)]
      rfl
theorem view_box (e : Ent) (w : World) : Blk (w.alloc (.cells #[.string ⟨e.n.toArray⟩, .int .i64 e.c, .int .i64 e.rc, .int .i64 e.v, .int .i64 e.d, .int .i64 e.u, .int .i64 e.h] 105)) w.heap.size #[.string ⟨e.n.toArray⟩, .int .i64 e.c, .int .i64 e.rc, .int .i64 e.v, .int .i64 e.d, .int .i64 e.u, .int .i64 e.h] 105 := heap_alloc_new w _
/-- The numbers of a view are int64s, and its name is not too long. -/
structure Ent.sane (e : Ent) : Prop where
  n : e.n.length ≤ 140737488355328
  c : -9223372036854775808 ≤ e.c ∧ e.c ≤ 9223372036854775807
  d : -9223372036854775808 ≤ e.d ∧ e.d ≤ 9223372036854775807
  u : -9223372036854775808 ≤ e.u ∧ e.u ≤ 9223372036854775807
set_option maxRecDepth 100000 in
set_option maxHeartbeats 3200000 in
theorem right_any (e : Ent) (W : World) (hs : e.sane) : Calls Tryz.prog 47 #[viewV e] W fun r w' => r = .returned (.bool e.right) ∧ Below W.heap.size W w' := by
  obtain ⟨er, n, c, rc, v, d, u, h⟩ := e
  obtain ⟨s1, s2, s3, s4⟩ := hs
  simp only at s1 s2 s3 s4
  unfold viewV
  simp only
  have hB := view_box ⟨er, n, c, rc, v, d, u, h⟩ W
  simp only at hB
  have hgr : Below W.heap.size W (W.alloc (.cells #[.string ⟨n.toArray⟩, .int .i64 c, .int .i64 rc, .int .i64 v, .int .i64 d, .int .i64 u, .int .i64 h] 105)) := (Below.refl _ _).alloc (Nat.le_refl _) _
  have hnm := rightName_any n (W.alloc (.cells #[.string ⟨n.toArray⟩, .int .i64 c, .int .i64 rc, .int .i64 v, .int .i64 d, .int .i64 u, .int .i64 h] 105)) s1
  have HNM : Hid _ := hnm
  have HG : Hid _ := hgr
  clear hnm hgr hB
  have hall : Ent.right ⟨er, n, c, rc, v, d, u, h⟩ = (nameB n && decide (1 ≤ c) && decide (c ≤ 1099511627776) && decide (0 ≤ rc) && decide (1 ≤ v) && fitsL c [d, u, h]) := rfl
  have HA : Hid _ := hall
  clear hall
  go_enter Tryz.func47, Tryz.ntmps47
  go_wp2_with fail
  refine Calls.mono HNM.out ?_
  rintro e w' ⟨rfl, hw'⟩
  replace hw' := hw'.symm
  subst hw'
  cases hn : nameB n with
  | false =>
    have HN : Hid _ := hn
    clear hn
    go_wp2_with fail
    go_ret
    exact ⟨ret_bool (by rw [HA.out, HN.out]; rfl), HG.out⟩
  | true =>
    have HN : Hid _ := hn
    clear hn
    by_cases c1 : 1 ≤ c
    · by_cases c2 : c ≤ 1099511627776
      · by_cases c3 : 0 ≤ rc
        · by_cases c4 : 1 ≤ v
          · go_wp2_with fail
            have hfi := fun (g : Nat) (w : World) (hb : FromI w (some ⟨g, 0, none⟩) [d, u, h]) => fits_any c (some ⟨g, 0, none⟩) 3 3 [d, u, h] w rfl (by decide) hb s2.1 s2.2
            refine Calls.mono (hfi _ _ (by have := fromI_new (W.alloc (.cells #[.string ⟨n.toArray⟩, .int .i64 c, .int .i64 rc, .int .i64 v, .int .i64 d, .int .i64 u, .int .i64 h] 105)) [d, u, h] #[.int .i64 d, .int .i64 u, .int .i64 h] (0, 0) 3 rfl; simpa using this)) ?_
            rintro e w2 ⟨rfl, hw2⟩
            replace hw2 := hw2.symm
            subst hw2
            go_wp2_with fail
            go_ret
            refine ⟨ret_bool ?_, HG.out.alloc ?_ _⟩
            · rw [HA.out, HN.out]; simp [c1, c2, c3, c4]
            · simp
          · go_wp2_with fail
            go_ret
            exact ⟨ret_bool (by rw [HA.out, show decide (1 ≤ v) = false from decide_eq_false (by omega)]; simp), HG.out⟩
        · go_wp2_with fail
          go_ret
          exact ⟨ret_bool (by rw [HA.out, show decide (0 ≤ rc) = false from decide_eq_false (by omega)]; simp), HG.out⟩
      · go_wp2_with fail
        go_ret
        exact ⟨ret_bool (by rw [HA.out, show decide (c ≤ 1099511627776) = false from decide_eq_false (by omega)]; simp), HG.out⟩
    · go_wp2_with fail
      go_ret
      exact ⟨ret_bool (by rw [HA.out, show decide (1 ≤ c) = false from decide_eq_false (by omega)]; simp), HG.out⟩
end Go.Proofs.YtnphkmdanicemaaGreatDoor
