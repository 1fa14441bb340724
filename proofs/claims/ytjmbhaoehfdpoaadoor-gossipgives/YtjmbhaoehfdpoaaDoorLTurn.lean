import Derived.Test.YtjmbhaoehfdpoaaDoorLLed
namespace Go.Proofs.YtjmbhaoehfdpoaaDoor.Led
open Go.RowKit Go.PlainAid
set_option linter.unusedVariables false
set_option linter.unusedSimpArgs false
structure LS where
  d : Int
  u : Int
  h : Int
  c : Int
  n : Int
def LS.cs (s : LS) : Array Value := #[.int .i64 s.d, .int .i64 s.u, .int .i64 s.h, .int .i64 s.c, .int .i64 s.n]
structure LS.Ok (s : LS) : Prop where
  d0 : 0 ≤ s.d
  u0 : 0 ≤ s.u
  h0 : 0 ≤ s.h
  sum : s.d + s.u + s.h ≤ s.c
  c1 : 1 ≤ s.c
  c2 : s.c ≤ 1099511627776
def LS.get (s : LS) : Nat → Int
  | 0 => s.d
  | 1 => s.u
  | _ => s.h
def LS.put (s : LS) : Nat → Int → LS
  | 0, x => { s with d := x }
  | 1, x => { s with u := x }
  | _, x => { s with h := x }
theorem LS.cs_get (s : LS) (i : Nat) (h : i < 3) : s.cs[i]? = some (.int .i64 (s.get i)) := by
  match i with
  | 0 => rfl
  | 1 => rfl
  | 2 => rfl
theorem LS.cs_put (s : LS) (i : Nat) (h : i < 3) (x : Int) : s.cs.setIfInBounds i (.int .i64 x) = (s.put i x).cs := by
  match i with
  | 0 => rfl
  | 1 => rfl
  | 2 => rfl
def LS.mv (s : LS) (i j : Nat) (k : Int) : LS := (s.put i (s.get i - k)).put j ((s.put i (s.get i - k)).get j + k)
def LS.tcode (s : LS) (i : Nat) (k : Int) : Int := if okAmt k = true then (if s.get i < k then 60 else 0) else 1
def LS.tnext (s : LS) (i j : Nat) (k : Int) : LS := if s.tcode i k = 0 then s.mv i j k else s
theorem LS.tcode_is (s : LS) (i : Nat) (k : Int) : s.tcode i k = 0 ∨ s.tcode i k = 1 ∨ s.tcode i k = 60 ∨ s.tcode i k = 61 := by
  unfold LS.tcode; split
  · split <;> simp
  · simp
theorem LS.get_le (s : LS) (h : s.Ok) (i : Nat) : 0 ≤ s.get i ∧ s.get i ≤ 1099511627776 := by
  obtain ⟨_, _, _, _, _, _⟩ := h
  unfold LS.get
  split <;> omega
theorem LS.tnext_ok (s : LS) (h : s.Ok) (i j : Nat) (hi : i < 3) (hj : j < 3) (hne : i ≠ j) (k : Int) : (s.tnext i j k).Ok := by
  unfold LS.tnext
  split
  · rename_i hc
    have hk : 1 ≤ k ∧ k ≤ s.get i := by
      unfold LS.tcode at hc
      split at hc
      · rename_i ha
        simp [okAmt] at ha
        split at hc
        · simp at hc
        · omega
      · simp at hc
    obtain ⟨h1, h2, h3, h4, h5, h6⟩ := h
    match i, j, hi, hj with
    | 0, 1, _, _ => simp only [LS.get] at hk; exact ⟨by simp [LS.mv, LS.put, LS.get]; omega, by simp [LS.mv, LS.put, LS.get]; omega, by simp [LS.mv, LS.put, LS.get]; omega, by simp [LS.mv, LS.put, LS.get]; omega, h5, h6⟩
    | 0, 2, _, _ => simp only [LS.get] at hk; exact ⟨by simp [LS.mv, LS.put, LS.get]; omega, by simp [LS.mv, LS.put, LS.get]; omega, by simp [LS.mv, LS.put, LS.get]; omega, by simp [LS.mv, LS.put, LS.get]; omega, h5, h6⟩
    | 1, 0, _, _ => simp only [LS.get] at hk; exact ⟨by simp [LS.mv, LS.put, LS.get]; omega, by simp [LS.mv, LS.put, LS.get]; omega, by simp [LS.mv, LS.put, LS.get]; omega, by simp [LS.mv, LS.put, LS.get]; omega, h5, h6⟩
    | 1, 2, _, _ => simp only [LS.get] at hk; exact ⟨by simp [LS.mv, LS.put, LS.get]; omega, by simp [LS.mv, LS.put, LS.get]; omega, by simp [LS.mv, LS.put, LS.get]; omega, by simp [LS.mv, LS.put, LS.get]; omega, h5, h6⟩
    | 2, 0, _, _ => simp only [LS.get] at hk; exact ⟨by simp [LS.mv, LS.put, LS.get]; omega, by simp [LS.mv, LS.put, LS.get]; omega, by simp [LS.mv, LS.put, LS.get]; omega, by simp [LS.mv, LS.put, LS.get]; omega, h5, h6⟩
    | 2, 1, _, _ => simp only [LS.get] at hk; exact ⟨by simp [LS.mv, LS.put, LS.get]; omega, by simp [LS.mv, LS.put, LS.get]; omega, by simp [LS.mv, LS.put, LS.get]; omega, by simp [LS.mv, LS.put, LS.get]; omega, h5, h6⟩
    | 0, 0, _, _ => exact absurd rfl hne
    | 1, 1, _, _ => exact absurd rfl hne
    | 2, 2, _, _ => exact absurd rfl hne
  · exact h
end Go.Proofs.YtjmbhaoehfdpoaaDoor.Led

