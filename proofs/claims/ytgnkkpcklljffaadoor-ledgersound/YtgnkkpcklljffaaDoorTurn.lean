import Derived.Test.YtgnkkpcklljffaaDoorLed
namespace Go.Proofs.YtgnkkpcklljffaaDoor
open Go.RowKit Go.PlainAid
set_option linter.unusedVariables false
set_option linter.unusedSimpArgs false
structure LS where
  d : Int
  u : Int
  h : Int
  c : Int
  n : Int
def LS.cs (s : LS) : Array Value := #[.int .i64 s.d, .int .i64 s.u, .int .i64 s.h, .int .i64 s.c, .int .i64 s.n]
structure LS.Ok (s : LS) : Prop where
  d0 : 0 ≤ s.d
  u0 : 0 ≤ s.u
  h0 : 0 ≤ s.h
  sum : s.d + s.u + s.h ≤ s.c
  c1 : 1 ≤ s.c
  c2 : s.c ≤ 1099511627776
def LS.get (s : LS) : Nat → Int
  | 0 => s.d
  | 1 => s.u
  | _ => s.h
def LS.put (s : LS) : Nat → Int → LS
  | 0, x => { s with d := x }
  | 1, x => { s with u := x }
  | _, x => { s with h := x }
theorem LS.cs_get (s : LS) (i : Nat) (h : i < 3) : s.cs[i]? = some (.int .i64 (s.get i)) := by
  match i with
  | 0 => rfl
  | 1 => rfl
  | 2 => rfl
theorem LS.cs_put (s : LS) (i : Nat) (h : i < 3) (x : Int) : s.cs.setIfInBounds i (.int .i64 x) = (s.put i x).cs := by
  match i with
  | 0 => rfl
  | 1 => rfl
  | 2 => rfl
def LS.mv (s : LS) (i j : Nat) (k : Int) : LS := (s.put i (s.get i - k)).put j ((s.put i (s.get i - k)).get j + k)
def LS.tcode (s : LS) (i : Nat) (k : Int) : Int := if okAmt k = true then (if s.get i < k then 60 else 0) else 1
def LS.tnext (s : LS) (i j : Nat) (k : Int) : LS := if s.tcode i k = 0 then s.mv i j k else s
theorem LS.tcode_is (s : LS) (i : Nat) (k : Int) : s.tcode i k = 0 ∨ s.tcode i k = 1 ∨ s.tcode i k = 60 ∨ s.tcode i k = 61 := by
  unfold LS.tcode; split
  · split <;> simp
  · simp
theorem LS.get_le (s : LS) (h : s.Ok) (i : Nat) : 0 ≤ s.get i ∧ s.get i ≤ 1099511627776 := by
  obtain ⟨_, _, _, _, _, _⟩ := h
  unfold LS.get
  split <;> omega
theorem LS.tnext_ok (s : LS) (h : s.Ok) (i j : Nat) (hi : i < 3) (hj : j < 3) (hne : i ≠ j) (k : Int) : (s.tnext i j k).Ok := by
  unfold LS.tnext
  split
  · rename_i hc
    have hk : 1 ≤ k ∧ k ≤ s.get i := by
      unfold LS.tcode at hc
      split at hc
      · rename_i ha
        simp [okAmt] at ha
        split at hc
        · simp at hc
        · omega
      · simp at hc
    obtain ⟨h1, h2, h3, h4, h5, h6⟩ := h
    match i, j, hi, hj with
    | 0, 1, _, _ => simp only [LS.get] at hk; exact ⟨by simp [LS.mv, LS.put, LS.get]; omega, by simp [LS.mv, LS.put, LS.get]; omega, by simp [LS.mv, LS.put, LS.get]; omega, by simp [LS.mv, LS.put, LS.get]; omega, h5, h6⟩
    | 0, 2, _, _ => simp only [LS.get] at hk; exact ⟨by simp [LS.mv, LS.put, LS.get]; omega, by simp [LS.mv, LS.put, LS.get]; omega, by simp [LS.mv, LS.put, LS.get]; omega, by simp [LS.mv, LS.put, LS.get]; omega, h5, h6⟩
    | 1, 0, _, _ => simp only [LS.get] at hk; exact ⟨by simp [LS.mv, LS.put, LS.get]; omega, by simp [LS.mv, LS.put, LS.get]; omega, by simp [LS.mv, LS.put, LS.get]; omega, by simp [LS.mv, LS.put, LS.get]; omega, h5, h6⟩
    | 1, 2, _, _ => simp only [LS.get] at hk; exact ⟨by simp [LS.mv, LS.put, LS.get]; omega, by simp [LS.mv, LS.put, LS.get]; omega, by simp [LS.mv, LS.put, LS.get]; omega, by simp [LS.mv, LS.put, LS.get]; omega, h5, h6⟩
    | 2, 0, _, _ => simp only [LS.get] at hk; exact ⟨by simp [LS.mv, LS.put, LS.get]; omega, by simp [LS.mv, LS.put, LS.get]; omega, by simp [LS.mv, LS.put, LS.get]; omega, by simp [LS.mv, LS.put, LS.get]; omega, h5, h6⟩
    | 2, 1, _, _ => simp only [LS.get] at hk; exact ⟨by simp [LS.mv, LS.put, LS.get]; omega, by simp [LS.mv, LS.put, LS.get]; omega, by simp [LS.mv, LS.put, LS.get]; omega, by simp [LS.mv, LS.put, LS.get]; omega, h5, h6⟩
    | 0, 0, _, _ => exact absurd rfl hne
    | 1, 1, _, _ => exact absurd rfl hne
    | 2, 2, _, _ => exact absurd rfl hne
  · exact h
set_option maxRecDepth 100000 in
set_option maxHeartbeats 800000 in
theorem turn_any {S : Sens} {L hb i j : Nat} {s : LS} (w : World) (hS : Sen S L w) (h : Blk w hb s.cs 62) (ho : s.Ok) (hi : i < 3) (hj : j < 3) (hne : i ≠ j) (k : Int) :
    Calls Tryd.prog 34 #[.int .i64 k, .pointer (some ⟨hb, i, none⟩), .pointer (some ⟨hb, j, none⟩)] w fun r w' => r = .returned (errV S (s.tcode i k)) ∧ Blk w' hb (s.tnext i j k).cs 62 ∧ Stq hb w w' := by
  have ha := amount_any k w
  have v0 := hS.v0
  have v2 := hS.v2
  have ci : w.cell? ⟨hb, i, none⟩ = some (.int .i64 (s.get i)) := (h.cell i).trans (s.cs_get i hi)
  have zi := h.frozen i
  have hgi := s.get_le ho i
  have hgj : 0 ≤ (s.put i (s.get i - k)).get j ∧ (s.put i (s.get i - k)).get j ≤ 1099511627776 := by
    have := s.get_le ho j
    match i, j, hi, hj with
    | 0, 1, _, _ => exact this
    | 0, 2, _, _ => exact this
    | 1, 0, _, _ => exact this
    | 1, 2, _, _ => exact this
    | 2, 0, _, _ => exact this
    | 2, 1, _, _ => exact this
    | 0, 0, _, _ => exact absurd rfl hne
    | 1, 1, _, _ => exact absurd rfl hne
    | 2, 2, _, _ => exact absurd rfl hne
  have h1 := h.set i (.int .i64 (s.get i - k))
  rw [s.cs_put i hi] at h1
  have cj : (w.setCell ⟨hb, i, none⟩ (.int .i64 (s.get i - k))).cell? ⟨hb, j, none⟩ = some (.int .i64 ((s.put i (s.get i - k)).get j)) := (h1.cell j).trans (LS.cs_get _ j hj)
  have zj := h1.frozen j
  have h2 := h1.set j (.int .i64 ((s.put i (s.get i - k)).get j + k))
  rw [LS.cs_put _ j hj] at h2
  have H2 : Hid _ := h2
  have HB : Hid _ := h
  clear h1 h2 h ho hS
  by_cases hk : okAmt k = true
  · have hk' : 1 ≤ k ∧ k ≤ 1099511627776 := by simpa [okAmt] using hk
    by_cases hlt : s.get i < k
    · have e : s.tcode i k = 60 := by simp [LS.tcode, hk, hlt]
      rw [e, show s.tnext i j k = s from by simp [LS.tnext, e]]
      show Calls Tryd.prog 34 _ w fun r w' => r = .returned (.iface 97 (.pointer (some S.a2))) ∧ _
      rw [hk] at ha
      generalize s.get i = x at *
      go_enter Tryd.func34, Tryd.ntmps34
      go_wp2_with fail
      refine ha.mono ?_
      rintro e w' ⟨rfl, rfl⟩
      go_wp2_with fail
      go_ret
      exact ⟨rfl, HB.out, Stq.refl _ _⟩
    · have e : s.tcode i k = 0 := by simp [LS.tcode, hk, hlt]
      rw [e, show s.tnext i j k = s.mv i j k from by simp [LS.tnext, e]]
      show Calls Tryd.prog 34 _ w fun r w' => r = .returned .nilIface ∧ _
      rw [hk] at ha
      unfold LS.mv
      generalize (s.put i (s.get i - k)).get j = y at *
      generalize s.get i = x at *
      have H3 : Hid _ := (Stq.set hb i (.int .i64 (x - k)) w).trans (Stq.set hb j (.int .i64 (y + k)) _)
      go_enter Tryd.func34, Tryd.ntmps34
      go_wp2_with fail
      refine ha.mono ?_
      rintro e w' ⟨rfl, rfl⟩
      go_wp2_with fail
      go_ret
      exact ⟨rfl, H2.out, H3.out⟩
  · have hk2 : okAmt k = false := by simpa using hk
    have e : s.tcode i k = 1 := by simp [LS.tcode, hk2]
    rw [e, show s.tnext i j k = s from by simp [LS.tnext, e]]
    show Calls Tryd.prog 34 _ w fun r w' => r = .returned (.iface 97 (.pointer (some S.a0))) ∧ _
    rw [hk2] at ha
    go_enter Tryd.func34, Tryd.ntmps34
    go_wp2_with fail
    refine ha.mono ?_
    rintro e w' ⟨rfl, rfl⟩
    go_wp2_with fail
    go_ret
    exact ⟨rfl, HB.out, Stq.refl _ _⟩
end Go.Proofs.YtgnkkpcklljffaaDoor
