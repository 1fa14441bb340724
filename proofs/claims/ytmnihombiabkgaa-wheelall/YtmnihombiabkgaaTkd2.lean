import Derived.Test.YtmnihombiabkgaaTkd
namespace Go.Proofs.Ytmnihombiabkgaa
open Go.RowKit Go.PlainAid Go.MapKept
set_option linter.unusedVariables false
set_option linter.unusedSimpArgs false
/-- A wheel's values. -/
structure WV where
  now : Int
  last : Int
  A : List Tm
def nx (k a b c : Int) (s : WV) : WV :=
  if k = 1 then ⟨s.now, s.last + 1, s.A ++ [⟨s.now + dl a, s.last + 1, b, c⟩]⟩ else if k = 2 then ⟨s.now, s.last, gone a s.A⟩ else if k = 3 then ⟨s.now + 1, s.last, stay (s.now + 1) s.A⟩ else s
def has (a : Int) (s : WV) : Bool := s.A.any fun t => decide (t.num = a)
def an (k a : Int) (s : WV) : Int := if k = 1 then s.last + 1 else if k = 2 then (if has a s = true then 1 else 0) else if k = 3 then s.now else 0
def al (k : Int) (s : WV) (l : List Tm) : Prop := if k = 3 then l = comes (s.now + 1) s.A else if k = 4 then Srtd l s.A else l = []
structure WH (base whb mp : Nat) (u : Int) (s : WV) (vs : List Value) (w : World) : Prop where
  wl : WL base whb mp u vs s.now s.last s.A (s.A.map (kvT u)) w
  wb : WB u s.now s.last s.A
theorem al_one {k : Int} {s : WV} {l l' : List Tm} (hu : Up s.A) (h : al k s l) (h' : al k s l') : l = l' := by
  unfold al at h h'
  by_cases h3 : k = 3
  · rw [if_pos h3] at h h'
    rw [h, h']
  · rw [if_neg h3] at h h'
    by_cases h4 : k = 4
    · rw [if_pos h4] at h h'
      exact srtd_one hu h h'
    · rw [if_neg h4] at h h'
      rw [h, h']
theorem al_len {k : Int} {s : WV} {l : List Tm} (h : al k s l) : l.length ≤ s.A.length := by
  unfold al at h
  split at h
  · rw [h]; exact comes_len _ _
  · split at h
    · rw [h.1.length_eq]; exact Nat.le_refl _
    · rw [h]; exact Nat.zero_le _
theorem gone_self {a : Int} {A : List Tm} (h : ∀ t ∈ A, t.num ≠ a) : gone a A = A := List.filter_eq_self.2 (fun t ht => by simpa using h t ht)
theorem has_no {a : Int} {s : WV} (h : has a s = false) : ∀ t ∈ s.A, t.num ≠ a := fun t ht e => by
  unfold has at h
  rw [List.any_eq_false] at h
  exact h t ht (by simpa using e)
theorem has_yes {a : Int} {s : WV} (h : has a s = true) : ∃ t ∈ s.A, t.num = a := by
  unfold has at h
  obtain ⟨t, ht, e⟩ := List.any_eq_true.1 h
  exact ⟨t, ht, by simpa using e⟩
/-- What a call leaves. -/
def TkPost (base whb mp : Nat) (u : Int) (s : WV) (vs : List Value) (k a b c : Int) (w : World) (e : Ending) (w' : World) : Prop :=
  ∃ v l vs', e = .returned (.tuple #[.int .i64 (an k a s), v]) ∧ al k s l ∧ w'.ownsRow w.heap.size 50 4 v l.length (flatT l) ∧ WH base whb mp u (nx k a b c s) vs' w' ∧ WStp whb mp vs vs' w w'
theorem wstp_trans {whb mp : Nat} {vs vs' : List Value} {w X w' : World} (hb : Below w.heap.size w X) (h : WStp whb mp vs vs' X w') : WStp whb mp vs vs' w w' :=
  ⟨(Chg.ofBelow (wown whb mp vs) hb).trans h.1 (fun _ _ e => e), fun k hk => by
    rcases h.2 k hk with h1 | h1
    · exact Or.inl h1
    · exact Or.inr (Nat.le_trans hb.size h1)⟩
theorem wstp_refl {whb mp : Nat} {vs : List Value} {w w' : World} (hb : Below w.heap.size w w') : WStp whb mp vs vs w w' := ⟨Chg.ofBelow _ hb, fun k hk => Or.inl hk⟩
set_option maxRecDepth 100000 in
set_option maxHeartbeats 3200000 in
theorem ticked_any {base whb mp : Nat} {u : Int} {s : WV} {vs : List Value} (k a b c : Int) (w : World) (h : WH base whb mp u s vs w) (hb1 : s.now ≤ 1000) (hb2 : s.last ≤ 1000) :
    Calls Try.prog 17 #[.pointer (some ⟨whb, 0, none⟩), .agg #[.int .i64 k, .int .i64 a, .int .i64 b, .int .i64 c]] w (TkPost base whb mp u s vs k a b c w) := by
  obtain ⟨X, hX⟩ : ∃ X, X = w.alloc (.cells #[.int .i64 k, .int .i64 a, .int .i64 b, .int .i64 c] 40) := ⟨_, rfl⟩
  obtain ⟨bx, hbx⟩ : ∃ bx, bx = w.heap.size := ⟨_, rfl⟩
  have hBx : Blk X bx #[.int .i64 k, .int .i64 a, .int .i64 b, .int .i64 c] 40 := by rw [hX, hbx]; exact heap_alloc_new w _
  have c0 : X.cell? ⟨bx, 0, none⟩ = some (.int .i64 k) := hBx.cell 0
  have c1 : X.cell? ⟨bx, 1, none⟩ = some (.int .i64 a) := hBx.cell 1
  have c2 : X.cell? ⟨bx, 2, none⟩ = some (.int .i64 b) := hBx.cell 2
  have c3 : X.cell? ⟨bx, 3, none⟩ = some (.int .i64 c) := hBx.cell 3
  have HBX : Hid (Below w.heap.size w X) := show Below w.heap.size w X from by rw [hX]; exact (Below.refl _ _).alloc (Nat.le_refl _) _
  have HX : Hid (WL base whb mp u vs s.now s.last s.A (s.A.map (kvT u)) X) := h.wl.more HBX.out
  have HWB : Hid (WB u s.now s.last s.A) := h.wb
  clear h hBx
  go_enter Try.func17, Try.ntmps17
  go_upto_region 1 with fail
  rw [← hX, ← hbx]
  clear hX hbx
  by_cases k1 : k = 1
  · subst k1
    have HA : Hid _ := arm_any a b c X HX.out HWB.out (by omega)
    have HP : Hid (WB u s.now (s.last + 1) (s.A ++ [(⟨s.now + dl a, s.last + 1, b, c⟩ : Tm)])) := HWB.out.push (by omega) a b c
    go_wp2_with fail
    refine Calls.mono HA.out ?_
    rintro e w1 ⟨rfl, vs1, hW1, hs1⟩
    have HW1 : Hid _ := hW1
    have HS1 : Hid (WStp whb mp vs vs1 w w1) := wstp_trans HBX.out hs1
    clear hW1 hs1 HA
    go_wp2_with fail
    go_ret2
    exact ⟨_, [], vs1, rfl, rfl, World.ownsRow_nil _ _ _ _, ⟨HW1.out, HP.out⟩, HS1.out⟩
  · by_cases k2 : k = 2
    · subst k2
      cases hh : has a s with
      | true =>
        obtain ⟨t, ht, hta⟩ := has_yes hh
        have HA : Hid _ := cancel_yes t X HX.out HWB.out ht
        rw [hta] at HA
        have HP : Hid (WB u s.now s.last (gone a s.A)) := HWB.out.gone a
        have HH : Hid (an 2 a s = 1) := show an 2 a s = 1 from by simp [an, hh]
        clear hh hta ht
        go_wp2_with fail
        refine Calls.mono HA.out ?_
        rintro e w1 ⟨rfl, vs1, hW1, hs1⟩
        have HW1 : Hid _ := hW1
        have HS1 : Hid (WStp whb mp vs vs1 w w1) := wstp_trans HBX.out hs1
        clear hW1 hs1 HA
        go_wp2_with fail
        go_ret2
        exact ⟨.slice none 0 0, [], vs1, by rw [HH.out]; rfl, rfl, World.ownsRow_nil _ _ _ _, ⟨HW1.out, HP.out⟩, HS1.out⟩
      | false =>
        have hno := has_no hh
        have HA : Hid _ := cancel_no a X HX.out hno
        have HG : Hid (gone a s.A = s.A) := gone_self hno
        have HH : Hid (an 2 a s = 0) := show an 2 a s = 0 from by simp [an, hh]
        clear hh hno
        go_wp2_with fail
        refine Calls.mono HA.out ?_
        rintro e w1 ⟨rfl, hw1⟩
        replace hw1 := hw1.symm
        subst hw1
        clear HA
        go_wp2_with fail
        go_ret2
        refine ⟨.slice none 0 0, [], vs, by rw [HH.out]; rfl, rfl, World.ownsRow_nil _ _ _ _, ?_, wstp_refl HBX.out⟩
        have : nx 2 a b c s = s := by
          unfold nx
          rw [HG.out]
          rfl
        rw [this]
        exact ⟨HX.out, HWB.out⟩
    · by_cases k3 : k = 3
      · subst k3
        have HN : Hid _ := now_any X HX.out
        have HA : Hid _ := tick_any X HX.out HWB.out (by omega)
        have HP : Hid (WB u (s.now + 1) s.last (stay (s.now + 1) s.A)) := HWB.out.tick (by omega)
        go_wp2_with fail
        refine Calls.mono HN.out ?_
        rintro e w1 ⟨rfl, hw1⟩
        replace hw1 := hw1.symm
        subst hw1
        go_wp2_with fail
        refine Calls.mono HA.out ?_
        rintro e w2 ⟨v2, rfl, hr2, vs2, hW2, hc2, ho2⟩
        have HW2 : Hid _ := hW2
        have HR2 : Hid (w2.ownsRow w.heap.size 50 4 v2 (comes (s.now + 1) s.A).length (flatT (comes (s.now + 1) s.A))) := ownsRow_mono hr2 HBX.out.size
        have HS2 : Hid (WStp whb mp vs vs2 w w2) := wstp_trans HBX.out ⟨hc2, fun k hk => Or.inl (ho2 k hk)⟩
        clear hW2 hr2 hc2 ho2 HA
        go_wp2_with fail
        go_ret2
        exact ⟨_, _, vs2, rfl, rfl, HR2.out, ⟨HW2.out, HP.out⟩, HS2.out⟩
      · have hnx : nx k a b c s = s := by simp [nx, k1, k2, k3]
        have han : an k a s = 0 := by simp [an, k1, k2, k3]
        have HNX : Hid (nx k a b c s = s) := hnx
        have HAN : Hid (an k a s = 0) := han
        have k1b : (k == 1) = false := by simpa using k1
        have k2b : (k == 2) = false := by simpa using k2
        have k3b : (k == 3) = false := by simpa using k3
        by_cases k4 : k = 4
        · subst k4
          have hlA : s.A.length ≤ 100000 := by have := HWB.out.len; omega
          have HA : Hid _ := list_any X HX.out HWB.out.hu hlA
          clear hnx han
          go_wp2_with fail
          refine Calls.mono HA.out ?_
          rintro e w1 ⟨v1, S1, rfl, hS1, hr1, hb1⟩
          have HW1 : Hid (WL base whb mp u vs s.now s.last s.A (s.A.map (kvT u)) w1) := HX.out.more hb1
          have HR1 : Hid (w1.ownsRow w.heap.size 50 4 v1 S1.length (flatT S1)) := ownsRow_mono hr1 HBX.out.size
          have HB1 : Hid (Below w.heap.size w w1) := show Below w.heap.size w w1 from HBX.out.trans (hb1.mono HBX.out.size)
          have HS1 : Hid (Srtd S1 s.A) := hS1
          clear hS1 hr1 hb1 HA
          go_wp2_with fail
          go_ret2
          exact ⟨v1, S1, vs, by rw [HAN.out]; rfl, HS1.out, HR1.out, by rw [HNX.out]; exact ⟨HW1.out, HWB.out⟩, wstp_refl HB1.out⟩
        · have k4b : (k == 4) = false := by simpa using k4
          have HAL : Hid (al k s []) := show al k s [] from by simp [al, k3, k4]
          clear hnx han
          go_wp2_with fail
          go_ret2
          exact ⟨.slice none 0 0, [], vs, by rw [HAN.out]; rfl, HAL.out, World.ownsRow_nil _ _ _ _, by rw [HNX.out]; exact ⟨HX.out, HWB.out⟩, wstp_refl HBX.out⟩
end Go.Proofs.Ytmnihombiabkgaa
