import Derived.Test.YtnphkmdanicemaaGreatDoorJM
namespace Go.Proofs.YtnphkmdanicemaaGreatDoor
open Go.RowKit Go.PlainAid
set_option linter.unusedVariables false
set_option linter.unusedSimpArgs false
def at0 (l : List Int) (i : Nat) : Int := l.getD i 0
theorem at0_lt {l : List Int} {i : Nat} (h : i < l.length) : at0 l i = l[i] := by simp [at0, List.getD, h]
theorem at0_some {zs : List Int} {k : Nat} (h : k < zs.length) : zs[k]? = some (at0 zs k) := by rw [at0_lt h]; exact List.getElem?_eq_getElem h
theorem FromI.at {w : World} {ao : Option Addr} {zs : List Int} (h : FromI w ao zs) {k : Nat} (hk : k < zs.length) : ∃ b off, ao = some ⟨b, off, none⟩ ∧ w.cell? ⟨b, off + k, none⟩ = some (.int .i64 (at0 zs k)) := by
  obtain ⟨b, off, e, hc⟩ := h (by omega)
  exact ⟨b, off, e, hc k _ (at0_some hk)⟩
/-- Where one begins to look. -/
def fromOf (me : Int) (n : Nat) : Nat := if 0 ≤ me ∧ me < n then me.toNat + 1 else 0
/-- The place that is looked at in round k. -/
def placeOf (me : Int) (n k : Nat) : Nat := (fromOf me n + k) % n
def askStep (me : Int) (zs : List Int) (acc : Int × Int) (p : Nat) : Int × Int := if (p : Int) ≠ me ∧ acc.2 < at0 zs p then ((p : Int), at0 zs p) else acc
def askTo (me : Int) (zs : List Int) : Nat → Int × Int
  | 0 => (-1, 0)
  | k + 1 => askStep me zs (askTo me zs k) (placeOf me zs.length k)
theorem fromOf_le (me : Int) (n : Nat) : fromOf me n ≤ n := by unfold fromOf; split <;> omega
theorem placeOf_lt {me : Int} {n k : Nat} (h : 0 < n) : placeOf me n k < n := Nat.mod_lt _ h
theorem place_rem (me : Int) (n k : Nat) : Int.tmod ((fromOf me n : Int) + (k : Int)) (n : Int) = ((placeOf me n k : Nat) : Int) := by
  rw [Int.tmod_eq_emod_of_nonneg (by omega)]
  show _ = (((fromOf me n + k) % n : Nat) : Int)
  rw [Int.natCast_emod, Int.natCast_add]
theorem askStep_me {me : Int} {zs : List Int} {acc : Int × Int} {p : Nat} (h : (p : Int) = me) : askStep me zs acc p = acc := by unfold askStep; rw [if_neg (fun h2 => h2.1 h)]
theorem askStep_le {me : Int} {zs : List Int} {acc : Int × Int} {p : Nat} (h : ¬ acc.2 < at0 zs p) : askStep me zs acc p = acc := by unfold askStep; rw [if_neg (fun h2 => h h2.2)]
theorem askStep_yes {me : Int} {zs : List Int} {acc : Int × Int} {p : Nat} (h : (p : Int) ≠ me) (h2 : acc.2 < at0 zs p) : askStep me zs acc p = ((p : Int), at0 zs p) := by unfold askStep; rw [if_pos ⟨h, h2⟩]
set_option maxRecDepth 100000 in
set_option maxHeartbeats 1600000 in
/-- Whom to ask. -/
theorem ask_any {ao : Option Addr} {n c : Nat} {zs : List Int} (me : Int) (hme : IntKind.i64.wrap me = me) (w : World) (hl : zs.length = n) (hx : FromI w ao zs) (hn : n * 8 ≤ 140737488355328) :
    Calls Tryz.prog 79 #[.int .i64 me, .slice ao n c] w fun r w' => r = .returned (.int .i64 (askTo me zs n).1) ∧ ∃ q, w' = w.drewN q := by
  have HX : Hid (FromI w ao zs) := hx
  clear hx
  have hst : ∀ k, askTo me zs (k + 1) = askStep me zs (askTo me zs k) (placeOf me n k) := fun k => by rw [← hl]; rfl
  have HST : Hid _ := hst
  have hpr := fun k => place_rem me n k
  have HPL : Hid (∀ k, 0 < n → placeOf me n k < n) := fun k h => placeOf_lt h
  clear hst
  by_cases h1 : 0 ≤ me
  · obtain ⟨m, rfl⟩ : ∃ m : Nat, me = m := ⟨me.toNat, by omega⟩
    by_cases h2 : (m : Int) < n
    · have hfr : fromOf (m : Int) n = m + 1 := by unfold fromOf; rw [if_pos ⟨h1, h2⟩]; omega
      rw [hfr] at hpr
      simp only [Int.natCast_add, Int.natCast_one] at hpr
      have HPR : Hid _ := hpr
      clear hfr hpr
      go_enter Tryz.func79, Tryz.ntmps79
      go_wp2
      go_loopw [6, 7, 22] (fun bv mv i wr => ∃ k q : Nat, k ≤ n ∧ i = .int .i64 k ∧ bv = .int .i64 (askTo (m : Int) zs k).1 ∧ mv = .int .i64 (askTo (m : Int) zs k).2 ∧ wr = w.drewN q) (fun _ _ i _ => n - (intOf i).toNat)
      case atStart => exact ⟨0, 0, Nat.zero_le _, rfl, rfl, rfl, rfl⟩
      case round =>
        obtain ⟨k, q, hk, rfl, rfl, rfl, rfl⟩ := hrel
        by_cases hlt : k < n
        · have hp := HPR.out k
          have hp2 := HPL.out k (by omega)
          have hs := HST.out k
          have hni : (n : Int) ≠ 0 := by omega
          generalize placeOf (m : Int) n k = p at hp hp2 hs
          obtain ⟨b1, o1, rfl, e1⟩ := FromI.at (k := p) HX.out (by omega)
          have f1 : (w.drewN q).cell? ⟨b1, o1 + p, none⟩ = some (.int .i64 (at0 zs p)) := e1
          by_cases hm : (p : Int) = (m : Int)
          · rw [askStep_me hm] at hs
            have hmb : ((p : Int) != (m : Int)) = false := by rw [hm]; simp
            have HS : Hid _ := hs
            clear hs
            generalize askTo (m : Int) zs k = acc at HS
            go_wp2
            go_roundw
            case rel => exact ⟨k + 1, q, by omega, by go_num, by rw [HS.out], by rw [HS.out], by first | trivial | rfl⟩
            case measure => simp [intOf]; omega
          · have hmb : ((p : Int) != (m : Int)) = true := by simpa using hm
            by_cases hz : (askTo (m : Int) zs k).2 < at0 zs p
            · rw [askStep_yes hm hz] at hs
              have HS : Hid _ := hs
              clear hs
              generalize askTo (m : Int) zs k = acc at HS hz
              generalize at0 zs p = z at HS hz e1 f1
              go_wp2
              go_quiet (fail)
              go_wp2
              go_roundw
              case rel => exact ⟨k + 1, _, by omega, by go_num, by rw [HS.out], by rw [HS.out], rfl⟩
              case measure => simp [intOf]; omega
            · rw [askStep_le hz] at hs
              have HS : Hid _ := hs
              clear hs
              generalize askTo (m : Int) zs k = acc at HS hz
              generalize at0 zs p = z at hz e1 f1
              go_wp2
              go_roundw
              case rel => exact ⟨k + 1, q, by omega, by go_num, by rw [HS.out], by rw [HS.out], by first | trivial | rfl⟩
              case measure => simp [intOf]; omega
        · obtain rfl : k = n := by omega
          go_wp2
          go_ret
          exact ⟨rfl, _, rfl⟩
    · have hfr : fromOf (m : Int) n = 0 := by unfold fromOf; rw [if_neg (fun h => h2 h.2)]
      rw [hfr] at hpr
      simp only [Int.natCast_zero, Int.zero_add] at hpr
      have HPR : Hid _ := hpr
      clear hfr hpr
      go_enter Tryz.func79, Tryz.ntmps79
      go_wp2
      go_loopw [6, 7, 22] (fun bv mv i wr => ∃ k q : Nat, k ≤ n ∧ i = .int .i64 k ∧ bv = .int .i64 (askTo (m : Int) zs k).1 ∧ mv = .int .i64 (askTo (m : Int) zs k).2 ∧ wr = w.drewN q) (fun _ _ i _ => n - (intOf i).toNat)
      case atStart => exact ⟨0, 0, Nat.zero_le _, rfl, rfl, rfl, rfl⟩
      case round =>
        obtain ⟨k, q, hk, rfl, rfl, rfl, rfl⟩ := hrel
        by_cases hlt : k < n
        · have hp := HPR.out k
          have hp2 := HPL.out k (by omega)
          have hs := HST.out k
          have hni : (n : Int) ≠ 0 := by omega
          generalize placeOf (m : Int) n k = p at hp hp2 hs
          obtain ⟨b1, o1, rfl, e1⟩ := FromI.at (k := p) HX.out (by omega)
          have f1 : (w.drewN q).cell? ⟨b1, o1 + p, none⟩ = some (.int .i64 (at0 zs p)) := e1
          by_cases hm : (p : Int) = (m : Int)
          · rw [askStep_me hm] at hs
            have hmb : ((p : Int) != (m : Int)) = false := by rw [hm]; simp
            have HS : Hid _ := hs
            clear hs
            generalize askTo (m : Int) zs k = acc at HS
            go_wp2
            go_roundw
            case rel => exact ⟨k + 1, q, by omega, by go_num, by rw [HS.out], by rw [HS.out], by first | trivial | rfl⟩
            case measure => simp [intOf]; omega
          · have hmb : ((p : Int) != (m : Int)) = true := by simpa using hm
            by_cases hz : (askTo (m : Int) zs k).2 < at0 zs p
            · rw [askStep_yes hm hz] at hs
              have HS : Hid _ := hs
              clear hs
              generalize askTo (m : Int) zs k = acc at HS hz
              generalize at0 zs p = z at HS hz e1 f1
              go_wp2
              go_quiet (fail)
              go_wp2
              go_roundw
              case rel => exact ⟨k + 1, _, by omega, by go_num, by rw [HS.out], by rw [HS.out], rfl⟩
              case measure => simp [intOf]; omega
            · rw [askStep_le hz] at hs
              have HS : Hid _ := hs
              clear hs
              generalize askTo (m : Int) zs k = acc at HS hz
              generalize at0 zs p = z at hz e1 f1
              go_wp2
              go_roundw
              case rel => exact ⟨k + 1, q, by omega, by go_num, by rw [HS.out], by rw [HS.out], by first | trivial | rfl⟩
              case measure => simp [intOf]; omega
        · obtain rfl : k = n := by omega
          go_wp2
          go_ret
          exact ⟨rfl, _, rfl⟩
  · have hfr : fromOf me n = 0 := by unfold fromOf; rw [if_neg (fun h => h1 h.1)]
    rw [hfr] at hpr
    simp only [Int.natCast_zero, Int.zero_add] at hpr
    have HPR : Hid _ := hpr
    clear hfr hpr
    go_enter Tryz.func79, Tryz.ntmps79
    go_wp2
    go_loopw [6, 7, 22] (fun bv mv i wr => ∃ k q : Nat, k ≤ n ∧ i = .int .i64 k ∧ bv = .int .i64 (askTo me zs k).1 ∧ mv = .int .i64 (askTo me zs k).2 ∧ wr = w.drewN q) (fun _ _ i _ => n - (intOf i).toNat)
    case atStart => exact ⟨0, 0, Nat.zero_le _, rfl, rfl, rfl, rfl⟩
    case round =>
      obtain ⟨k, q, hk, rfl, rfl, rfl, rfl⟩ := hrel
      by_cases hlt : k < n
      · have hp := HPR.out k
        have hp2 := HPL.out k (by omega)
        have hs := HST.out k
        have hni : (n : Int) ≠ 0 := by omega
        generalize placeOf me n k = p at hp hp2 hs
        obtain ⟨b1, o1, rfl, e1⟩ := FromI.at (k := p) HX.out (by omega)
        have f1 : (w.drewN q).cell? ⟨b1, o1 + p, none⟩ = some (.int .i64 (at0 zs p)) := e1
        by_cases hm : (p : Int) = me
        · exact absurd hm (by omega)
        · have hmb : ((p : Int) != me) = true := by simpa using hm
          by_cases hz : (askTo me zs k).2 < at0 zs p
          · rw [askStep_yes hm hz] at hs
            have HS : Hid _ := hs
            clear hs
            generalize askTo me zs k = acc at HS hz
            generalize at0 zs p = z at HS hz e1 f1
            go_wp2
            go_quiet (fail)
            go_wp2
            go_roundw
            case rel => exact ⟨k + 1, _, by omega, by go_num, by rw [HS.out], by rw [HS.out], rfl⟩
            case measure => simp [intOf]; omega
          · rw [askStep_le hz] at hs
            have HS : Hid _ := hs
            clear hs
            generalize askTo me zs k = acc at HS hz
            generalize at0 zs p = z at hz e1 f1
            go_wp2
            go_roundw
            case rel => exact ⟨k + 1, q, by omega, by go_num, by rw [HS.out], by rw [HS.out], by first | trivial | rfl⟩
            case measure => simp [intOf]; omega
      · obtain rfl : k = n := by omega
        go_wp2
        go_ret
        exact ⟨rfl, _, rfl⟩
end Go.Proofs.YtnphkmdanicemaaGreatDoor
