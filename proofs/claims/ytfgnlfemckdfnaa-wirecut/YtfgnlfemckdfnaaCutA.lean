import Derived.Test.YtfgnlfemckdfnaaRefY1
import Derived.Test.YtfgnlfemckdfnaaRefY3
import Derived.Test.YtfgnlfemckdfnaaRefY4
namespace Go.Proofs.Ytfgnlfemckdfnaa
open Go.RowKit Go.PlainAid

/-- The reference's Valid. -/
theorem rvalid_any (m : Msg) (ao : Option Addr) (cv : Nat) (w : World) (hl : m.name.length ≤ 140737488355328) (hol : m.oname.length ≤ 140737488355328) (hsrc : VFrom w ao m.views) (hsb : ∀ b o, ao = some ⟨b, o, none⟩ → b < w.heap.size) (hnm : ∀ x ∈ m.views, x.name.length ≤ 140737488355328) :
    Calls Try.prog 23 #[.agg (msgCells m (.slice ao m.views.length cv))] w (fun e w' => e = .returned (.bool (validB m)) ∧ Below w.heap.size w w') := by
  generalize hD : msgCells m (.slice ao m.views.length cv) = D
  have HD : Hid _ := hD
  cases hin : inB m.kind 1 10
  · exact rvalid_wrong m ao cv w D HD hl hol hsrc hsb hnm hin
  cases hal : alikeB m (shapeM m)
  · exact rvalid_shape m ao cv w D HD hl hol hsrc hsb hnm hin hal
  have hk : 1 ≤ m.kind ∧ m.kind ≤ 10 := by simpa [inB] using hin
  by_cases h1 : m.kind = 1
  · exact rvalid1 m ao cv w D HD hl hol hsrc hsb hnm h1 hin hal
  by_cases h2 : m.kind = 2
  · by_cases hq0 : m.err = 0
    · exact rvalid2a m ao cv w D HD hl hol hsrc hsb hnm h2 hq0 hin hal
    · by_cases hq1 : m.err = 101
      · exact rvalid2b m ao cv w D HD hl hol hsrc hsb hnm h2 hq0 hq1 hin hal
      · exact rvalid2c m ao cv w D HD hl hol hsrc hsb hnm h2 hq0 hq1 hin hal
  by_cases h10 : m.kind = 10
  · exact rvalid10 m ao cv w D HD hl hol hsrc hsb hnm h10 hin hal
  by_cases h7 : m.kind = 7
  · exact rvalidB m ao cv w D HD hl hol hsrc hsb hnm h7 hin hal
  by_cases h6 : m.kind ≤ 6
  · exact rvalidA m ao cv w D HD hl hol hsrc hsb hnm (by omega) h6 hin hal
  · exact rvalidC m ao cv w D HD hl hol hsrc hsb hnm (by omega) (by omega) hin hal
end Go.Proofs.Ytfgnlfemckdfnaa
namespace Go.Proofs.Ytfgnlfemckdfnaa
open Go.RowKit Go.PlainAid

theorem wr_pos {m : Msg} {bs : List UInt8} (h : message.wr m = some bs) : 0 < bs.length := by
  have h0 : message.wr m = match (num 1 10).wr m.kind with
      | none => none
      | some p => match (bodyC m.kind).wr m with
        | none => none
        | some q => some (p ++ q) := rfl
  rw [h0] at h
  cases hp : (num 1 10).wr m.kind with
  | none => rw [hp] at h; cases h
  | some p =>
    rw [hp] at h
    have hk := num_some hp
    have hp' : put m.kind.toNat = p := by
      simp only [num] at hp
      split at hp
      · exact Option.some.inj hp
      · cases hp
    have hl := (put_len m.kind.toNat (by omega)).1
    cases hq : (bodyC m.kind).wr m with
    | none => rw [hq] at h; cases h
    | some q =>
      rw [hq] at h
      cases h
      rw [List.length_append, ← hp']
      omega
theorem whole_cut {m : Msg} {bs : List UInt8} (h : message.wr m = some bs) {c : Nat} (hc : c < bs.length) : whole message (bs.take c) = .error c := by
  unfold whole
  rw [law_message.cut m bs h c hc]
theorem whole_more {m : Msg} {bs : List UInt8} (h : message.wr m = some bs) (post : List UInt8) : whole message (bs ++ post) = if post = [] then .ok (m, 0) else .error bs.length := by
  unfold whole
  rw [law_message.forth m bs h post]
  cases post with
  | nil => simp
  | cons a t => simp
theorem wr_inj {m x : Msg} {bs cs : List UInt8} (h : message.wr m = some bs) (k : message.wr x = some cs) (hne : bs ≠ cs) : x ≠ m := by
  intro e
  subst e
  rw [h] at k
  exact hne (Option.some.inj k)

theorem cwithin_any (x : Int) (n : Nat) (hx1 : (-9223372036854775808 : Int) ≤ x) (hx2 : x < 9223372036854775808) (hn : 0 < n) (hn2 : n < 9223372036854775808) (w : World) :
    Calls Try.prog 24 #[.int .i64 x, .int .i64 n] w (fun e w' => (∃ r : Nat, r < n ∧ e = .returned (.int .i64 r)) ∧ w' = w) := by
  go_enter Try.func24, Try.ntmps24
  have hn0 : ((n : Int) == 0) = false := by simp; omega
  by_cases h : x < 0
  · go_wp2
    go_ret
    have e : -((x + 1).tmod (n : Int)) = (-(x + 1)) % (n : Int) := by rw [← Int.neg_tmod, Int.tmod_eq_emod_of_nonneg (by omega)]
    have h1 := Int.emod_nonneg (-(x + 1)) (show (n : Int) ≠ 0 by omega)
    have h2 := Int.emod_lt_of_pos (-(x + 1)) (show (0 : Int) < n by omega)
    refine ⟨⟨((-(x + 1)) % (n : Int)).toNat, by omega, ?_⟩, rfl⟩
    show Ending.returned (.int .i64 (-((x + 1).tmod (n : Int)))) = _
    rw [e, Int.toNat_of_nonneg h1]
  · go_wp2
    go_ret
    have h1 := Int.emod_nonneg x (show (n : Int) ≠ 0 by omega)
    have h2 := Int.emod_lt_of_pos x (show (0 : Int) < n by omega)
    refine ⟨⟨(x % (n : Int)).toNat, by omega, ?_⟩, rfl⟩
    show Ending.returned (.int .i64 (x % (n : Int))) = _
    rw [Int.toNat_of_nonneg h1]
theorem viewList_le : ∀ (n : Nat) (ab : List UInt8) (l : List View) (bs : List UInt8), (viewList n ab).wr l = some bs → bs.length ≤ 86 * n := by
  intro n
  induction n with
  | zero =>
    intro ab l bs h
    simp only [viewList, Codec.map, Codec.unit] at h
    split at h
    · cases h; simp
    · cases h
  | succ n ih =>
    intro ab l bs h
    simp only [viewList, Codec.map] at h
    split at h
    · cases l with
      | nil => rename_i hn; cases hn
      | cons v t =>
        have h' : (match (view ab).wr v with
          | none => none
          | some p => match (viewList n v.name).wr t with
            | none => none
            | some q => some (p ++ q)) = some bs := h
        cases hp : (view ab).wr v with
        | none => rw [hp] at h'; cases h'
        | some p =>
          rw [hp] at h'
          cases hq : (viewList n v.name).wr t with
          | none => rw [hq] at h'; cases h'
          | some q =>
            rw [hq] at h'
            cases h'
            have := view_len hp
            have := ih _ _ _ hq
            rw [List.length_append]
            omega
    · cases h
theorem views_le {l : List View} {bs : List UInt8} (h : views.wr l = some bs) : bs.length ≤ 6000 := by
  have h' : (match (num 0 64).wr (l.length : Int) with
    | none => none
    | some p => match (viewList (l.length : Int).toNat []).wr l with
      | none => none
      | some q => some (p ++ q)) = some bs := h
  cases hp : (num 0 64).wr (l.length : Int) with
  | none => rw [hp] at h'; cases h'
  | some p =>
    rw [hp] at h'
    cases hq : (viewList (l.length : Int).toNat []).wr l with
    | none => rw [hq] at h'; cases h'
    | some q =>
      rw [hq] at h'
      cases h'
      have := num_len hp
      have := num_some hp
      have := viewList_le _ _ _ _ hq
      rw [List.length_append]
      omega
theorem body_le {m : Msg} {bs : List UInt8} (h : bodyW m = some bs) : bs.length ≤ 6000 := by
  have n1 := fun (a s p : List UInt8) (h : (name a).wr s = some p) => name_len h
  unfold bodyW at h
  split at h
  · have := join_len (fun _ h => call_len h) (fun _ h => op_len h) bs h; omega
  split at h
  · split at h
    · have := join_len (fun _ h => call_len h) (join_len (fun _ h => name_len h) (join_len (fun _ h => errno_len h) (fun _ h => caps_len h))) bs h; omega
    · have := join_len (fun _ h => call_len h) (join_len (fun _ h => name_len h) (fun _ h => errno_len h)) bs h; omega
  split at h
  · have := join_len (fun _ h => name_len h) (join_len (fun _ h => caps_len h) (fun _ h => epoch_len h)) bs h; omega
  split at h
  · have := join_len (fun _ h => name_len h) (join_len (fun _ h => caps_len h) (join_len (fun _ h => epoch_len h) (join_len (fun _ h => rights_len h) (fun _ h => held_len h)))) bs h; omega
  split at h
  · have := join_len (fun _ h => name_len h) (join_len (fun _ h => caps_len h) (join_len (fun _ h => epoch_len h) (fun _ h => epoch_len h))) bs h; omega
  split at h
  · have := join_len (fun _ h => name_len h) (join_len (fun _ h => caps_len h) (fun _ h => rights_len h)) bs h; omega
  split at h
  · exact views_le h
  · have := join_len (fun _ h => name_len h) (join_len (fun _ h => caps_len h) (join_len (fun _ h => epoch_len h) (fun _ h => rights_len h))) bs h; omega
/-- What a message is written as is short. -/
theorem wr_le {m : Msg} {bs : List UInt8} (h : message.wr m = some bs) : bs.length ≤ 6010 := by
  rw [enc_is] at h
  unfold encM at h
  cases hf : fieldsW m with
  | none => rw [hf] at h; cases h
  | some p =>
    rw [hf] at h
    simp only at h
    split at h
    · cases h
      have := join_len (fun _ h => num_len h) (fun _ h => body_le h) _ hf
      omega
    · cases h
end Go.Proofs.Ytfgnlfemckdfnaa
