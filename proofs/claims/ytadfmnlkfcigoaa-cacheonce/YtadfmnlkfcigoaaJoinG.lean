import Derived.Test.YtadfmnlkfcigoaaNw
import Derived.Test.YtadfmnlkfcigoaaAgL
namespace Go.Proofs.Ytadfmnlkfcigoaa
open Go.RowKit Go.PlainAid Go.MapKept
set_option linter.unusedVariables false
set_option linter.unusedSimpArgs false
set_option maxRecDepth 100000 in
set_option maxHeartbeats 3200000 in
theorem new_no (me rep ses room : Int) (w : World) (h : newCode me rep ses room ≠ 0) :
    Calls Try.prog 10 #[.int .i64 me, .int .i64 rep, .int .i64 ses, .int .i64 room] w fun e w' => e = .returned (.tuple #[.pointer none, .int .i64 (newCode me rep ses room)]) ∧ w' = w := by
  by_cases h1 : rep < 2
  · have hc : newCode me rep ses room = 1 := by unfold newCode; rw [if_pos (Or.inl h1)]
    rw [hc]
    clear h hc
    go_enter Try.func10, Try.ntmps10
    go_wp2_with fail
    go_ret2
    exact ⟨rfl, rfl⟩
  by_cases h2 : 16 < rep
  · have hc : newCode me rep ses room = 1 := by unfold newCode; rw [if_pos (Or.inr (Or.inl h2))]
    rw [hc]
    clear h hc
    go_enter Try.func10, Try.ntmps10
    go_wp2_with fail
    go_ret2
    exact ⟨rfl, rfl⟩
  by_cases h3 : ses < 1
  · have hc : newCode me rep ses room = 1 := by unfold newCode; rw [if_pos (Or.inr (Or.inr (Or.inl h3)))]
    rw [hc]
    clear h hc
    go_enter Try.func10, Try.ntmps10
    go_wp2_with fail
    go_ret2
    exact ⟨rfl, rfl⟩
  by_cases h4 : 64 < ses
  · have hc : newCode me rep ses room = 1 := by unfold newCode; rw [if_pos (Or.inr (Or.inr (Or.inr (Or.inl h4))))]
    rw [hc]
    clear h hc
    go_enter Try.func10, Try.ntmps10
    go_wp2_with fail
    go_ret2
    exact ⟨rfl, rfl⟩
  by_cases h5 : room < 1
  · have hc : newCode me rep ses room = 1 := by unfold newCode; rw [if_pos (Or.inr (Or.inr (Or.inr (Or.inr (Or.inl h5)))))]
    rw [hc]
    clear h hc
    go_enter Try.func10, Try.ntmps10
    go_wp2_with fail
    go_ret2
    exact ⟨rfl, rfl⟩
  by_cases h6 : 16 < room
  · have hc : newCode me rep ses room = 1 := by unfold newCode; rw [if_pos (Or.inr (Or.inr (Or.inr (Or.inr (Or.inr (h6))))))]
    rw [hc]
    clear h hc
    go_enter Try.func10, Try.ntmps10
    go_wp2_with fail
    go_ret2
    exact ⟨rfl, rfl⟩
  have hn : ¬ (rep < 2 ∨ 16 < rep ∨ ses < 1 ∨ 64 < ses ∨ room < 1 ∨ 16 < room) := by omega
  by_cases h7 : me < 0
  · have hc : newCode me rep ses room = 3 := by unfold newCode; rw [if_neg hn, if_pos (Or.inl h7)]
    rw [hc]
    clear h hc hn
    go_enter Try.func10, Try.ntmps10
    go_wp2_with fail
    go_ret2
    exact ⟨rfl, rfl⟩
  by_cases h8 : rep ≤ me
  · have hc : newCode me rep ses room = 3 := by unfold newCode; rw [if_neg hn, if_pos (Or.inr h8)]
    rw [hc]
    clear h hc hn
    go_enter Try.func10, Try.ntmps10
    go_wp2_with fail
    go_ret2
    exact ⟨rfl, rfl⟩
  exact absurd (by unfold newCode; rw [if_neg hn, if_neg (by omega)]) h
end Go.Proofs.Ytadfmnlkfcigoaa
namespace Go.Proofs.Ytadfmnlkfcigoaa
open Go.RowKit Go.PlainAid
set_option linter.unusedVariables false
set_option linter.unusedSimpArgs false
set_option maxRecDepth 100000 in
set_option maxHeartbeats 3200000 in
theorem made_no (me rep ses room : Int) (w : World) (h : newCode me rep ses room ≠ 0) :
    Calls Try.prog 15 #[.int .i64 me, .int .i64 rep, .int .i64 ses, .int .i64 room] w fun e w' => e = .returned (.tuple #[.pointer none, .bool true]) ∧ w' = w := by
  have H1 : Hid _ := new_no me rep ses room w h
  have H2 : Hid _ := rnew_no me rep ses room w h
  have H3 : Hid _ := num_any (newCode me rep ses room) w
  clear h
  go_enter Try.func15, Try.ntmps15
  go_wp2_with fail
  refine Calls.mono H1.out ?_
  rintro e w1 ⟨rfl, hw⟩
  replace hw := hw.symm
  subst hw
  go_wp2_with fail
  refine Calls.mono H2.out ?_
  rintro e w1 ⟨rfl, hw⟩
  replace hw := hw.symm
  subst hw
  go_wp2_with fail
  refine Calls.mono H3.out ?_
  rintro e w1 ⟨rfl, hw⟩
  replace hw := hw.symm
  subst hw
  go_wp2_with fail
  go_ret2
  exact ⟨rfl, rfl⟩
def s0 : PV := ⟨cx0, rs0, 0, nz0⟩
theorem bd0 : PBd s0 0 := ⟨Nat.le_refl _, Nat.le_refl _, ⟨Int.le_refl _, Int.le_refl _⟩, Nat.le_refl _⟩
theorem newCode_ok {me rep ses room : Int} (h : newCode me rep ses room = 0) : (2 ≤ rep ∧ rep ≤ 16) ∧ (1 ≤ ses ∧ ses ≤ 64) ∧ (1 ≤ room ∧ room ≤ 16) ∧ (0 ≤ me ∧ me < rep) := by
  unfold newCode at h
  split at h
  · cases h
  · split at h
    · cases h
    · omega
set_option maxRecDepth 100000 in
set_option maxHeartbeats 3200000 in
theorem made_yes (me rep ses room : Int) (w : World) (h : newCode me rep ses room = 0) :
    Calls Try.prog 15 #[.int .i64 me, .int .i64 rep, .int .i64 ses, .int .i64 room] w fun e w' => ∃ a : PA, e = .returned (.tuple #[.pointer (some ⟨a.pb, 0, none⟩), .bool true]) ∧ a.L = w.heap.size ∧ a.ca.me = me ∧ a.ca.rep = rep ∧ a.ca.ses = ses ∧ ((a.ca.room : Nat) : Int) = room ∧ PN a s0 w' ∧ Below w.heap.size w w' := by
  obtain ⟨hr, hse, hrm, hme⟩ := newCode_ok h
  obtain ⟨rm, rfl⟩ : ∃ rm : Nat, room = rm := ⟨room.toNat, by omega⟩
  have H1 : Hid _ := new_ok me rep ses rm w hr hse (by omega) hme
  have HIN : Hid (1 ≤ rm ∧ rm ≤ 16) := show 1 ≤ rm ∧ rm ≤ 16 from by omega
  clear h hr hse hrm hme
  go_enter Try.func15, Try.ntmps15
  go_wp2_with fail
  refine Calls.mono H1.out ?_
  rintro e w1 ⟨cb, ms, mp, hs, rfl, hM, hb1, how⟩
  have H2 : Hid _ := rnew_ok ⟨cb, ms, mp, hs, me, rep, ses, rm⟩ w1 hM.ok
  have HM : Hid (CM ⟨cb, ms, mp, hs, me, rep, ses, rm⟩ cx0 w1) := hM
  have HB1 : Hid (Below w.heap.size w w1) := hb1
  have HOW : Hid _ := how
  clear hM hb1 how H1
  go_wp2_with fail
  refine Calls.mono H2.out ?_
  rintro e w2 ⟨rfl, hw2⟩
  obtain ⟨rb, hrb⟩ : ∃ rb, rb = w1.heap.size := ⟨_, rfl⟩
  rw [← hrb]
  have HB2 : Hid (Below w1.heap.size w1 w2) := show Below w1.heap.size w1 w2 from by rw [hw2]; exact (Below.refl _ _).alloc (Nat.le_refl _) _
  have HRB : Hid (Blk w2 rb (rz me rep ses (rm : Nat)) 87) := show Blk w2 rb (rz me rep ses (rm : Nat)) 87 from by rw [hw2, hrb]; exact heap_alloc_new w1 _
  have HRL : Hid (w.heap.size ≤ rb ∧ w1.heap.size ≤ rb) := ⟨by rw [hrb]; exact HB1.out.size, by omega⟩
  have H3 : Hid _ := num_any 0 w2
  clear hw2 H2 hrb
  go_wp2_with fail
  refine Calls.mono H3.out ?_
  rintro e w3 ⟨rfl, hw⟩
  replace hw := hw.symm
  subst hw
  clear H3
  have HFIN : Hid (PN ⟨w.heap.size, w2.heap.size, rb, ⟨cb, ms, mp, hs, me, rep, ses, rm⟩⟩ s0 (w2.alloc (.cells #[.pointer (some ⟨cb, 0, none⟩), .pointer (some ⟨rb, 0, none⟩), .slice none 0 0, .slice none 0 0, .int .i64 0, .slice none 0 0, .slice none 0 0] 57)) ∧ Below w.heap.size w (w2.alloc (.cells #[.pointer (some ⟨cb, 0, none⟩), .pointer (some ⟨rb, 0, none⟩), .slice none 0 0, .slice none 0 0, .int .i64 0, .slice none 0 0, .slice none 0 0] 57))) := by
    have hb2 : Below w.heap.size w w2 := HB1.out.trans (HB2.out.mono HB1.out.size)
    have hal : Below w2.heap.size w2 (w2.alloc (.cells #[.pointer (some ⟨cb, 0, none⟩), .pointer (some ⟨rb, 0, none⟩), .slice none 0 0, .slice none 0 0, .int .i64 0, .slice none 0 0, .slice none 0 0] 57)) := (Below.refl _ _).alloc (Nat.le_refl _) _
    have h0 : Held (nz0.ents w.heap.size) w1 := held0 _ _
    have hr0 : Held (rcE w.heap.size ⟨cb, ms, mp, hs, me, rep, ses, rm⟩ rb rs0 :: nz0.ents w.heap.size) w2 := (h0.more HB2.out).add (show RC _ _ _ _ _ from ⟨⟨_, HRB.out, rcc_zero ⟨cb, ms, mp, hs, me, rep, ses, rm⟩⟩, World.ownsRow_nil _ _ _ _, World.ownsRow_nil _ _ _ _, HRL.out.1⟩) (fun k hk hh => nz0_has hh)
    have hc0 : Held (cmE w.heap.size ⟨cb, ms, mp, hs, me, rep, ses, rm⟩ cx0 :: rcE w.heap.size ⟨cb, ms, mp, hs, me, rep, ses, rm⟩ rb rs0 :: nz0.ents w.heap.size) w2 := hr0.add ⟨HM.out.more HB2.out, HOW.out⟩ (fun k hk hh => by
      rcases has_cons.1 hh with h1 | h1
      · have h2 := HM.out.lt hk
        have h3 : k = rb := by
          rcases h1 with e | e | e
          · exact e
          · cases e
          · cases e
        have := HRL.out.2
        omega
      · exact nz0_has h1)
    refine ⟨⟨(hc0.more hal).add (e := boxE w.heap.size w2.heap.size (pairV cb rb 0 nz0) 57) ⟨heap_alloc_new w2 _, hb2.size⟩ (fun k hk hh => ?_), full0, Agr.new0 _ _ _, ?_⟩, hb2.alloc hb2.size _⟩
    · have h2 := (hc0.typ hh).2
      have h3 : k = w2.heap.size := hk
      omega
    · rw [World.size_alloc]
      exact Nat.le_succ_of_le hb2.size
  clear HB1 HB2 HM HRB HOW
  go_wp2_with fail
  go_ret2
  exact ⟨⟨w.heap.size, w2.heap.size, rb, ⟨cb, ms, mp, hs, me, rep, ses, rm⟩⟩, rfl, rfl, rfl, rfl, rfl, rfl, HFIN.out.1, HFIN.out.2⟩
end Go.Proofs.Ytadfmnlkfcigoaa
