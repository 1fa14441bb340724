import Derived.Test.YtcjgicfmfjomgaaAlv
namespace Go.Proofs.Ytcjgicfmfjomgaa
open Go.RowKit Go.PlainAid Go.MapKept
set_option linter.unusedVariables false
set_option linter.unusedSimpArgs false
set_option maxRecDepth 100000 in
set_option maxHeartbeats 3200000 in
theorem news_law (me peer win res : Int) (w : World) :
    Calls Try.prog 3 #[.int .i64 me, .int .i64 peer, .int .i64 win, .int .i64 res] w fun e w' => e = .returned (.bool true) ∧ Below w.heap.size w w' := by
  have HA : Hid _ := alive_any w
  by_cases h : repOk me peer ∧ argOk win res
  · obtain ⟨wn, rfl⟩ : ∃ wn : Nat, win = (wn : Int) := ⟨win.toNat, by have := h.2.1; omega⟩
    have H1 : Hid (repOk me peer) := h.1
    have H2 : Hid (argOk wn res) := h.2
    have hwn : 1 ≤ wn ∧ wn ≤ 16 := by have := h.2.1; omega
    clear h
    go_enter Try.func3, Try.ntmps3
    go_wp2_with fail
    refine Calls.mono HA.out ?_
    rintro e w1 ⟨rfl, hb1⟩
    have HB1 : Hid (Below w.heap.size w w1) := hb1
    have HMD : Hid _ := made_yes me peer wn res w1 H1.out H2.out
    clear hb1 HA
    go_wp2_with fail
    refine Calls.mono HMD.out ?_
    rintro e w2 ⟨lb, cb, mb, eb, rfl, hE, hb2⟩
    have HE : Hid _ := hE
    have HB2 : Hid (Below w.heap.size w w2) := show Below _ _ _ from HB1.out.trans (hb2.mono HB1.out.size)
    have HBL : Hid (w.heap.size ≤ w1.heap.size) := show _ ≤ _ from HB1.out.size
    have c2 : w2.cell? ⟨eb, 0, none⟩ = some (.pointer (some ⟨lb, 0, none⟩)) := hE.cell
    have HN : Hid _ := next_any w2 hE.lm
    clear hE hb2 HMD HB1 H1 H2
    go_wp2_with fail
    refine Calls.mono HN.out ?_
    rintro e w3 ⟨rfl, hw3⟩
    replace hw3 := hw3.symm
    subst hw3
    clear HN
    go_wp2_with fail
    refine Calls.mono (room_any w2 HE.out.lm (by show wn ≤ 16; omega) (by simp [fresh]) (by simp [fresh])) ?_
    rintro e w3 ⟨rfl, q3, rfl⟩
    rw [show (((fresh me peer wn res).win : Nat) : Int) - (((fresh me peer wn res).box.length : Nat) : Int) - (((fresh me peer wn res).under.length : Nat) : Int) = (wn : Int) from by simp [fresh]]
    have hbq : Below w2.heap.size w2 (w2.drewN q3) := ⟨rfl, rfl, rfl, Nat.le_refl _, fun _ _ => rfl⟩
    have HE3 : Hid _ := HE.out.more hbq
    have HB3 : Hid (Below w.heap.size w (w2.drewN q3)) := show Below _ _ _ from HB2.out.trans (hbq.mono HB2.out.size)
    obtain ⟨w3, hw3⟩ : ∃ w3, w3 = w2.drewN q3 := ⟨_, rfl⟩
    rw [← hw3] at HE3 HB3 ⊢
    clear hw3 hbq HE HB2 c2
    have c3 : w3.cell? ⟨eb, 0, none⟩ = some (.pointer (some ⟨lb, 0, none⟩)) := HE3.out.cell
    go_wp2_with fail
    refine Calls.mono (out_any w3 HE3.out.lm (by simp [fresh]) (by simp [fresh]) (by simp [fresh]) (by simp [fresh]) (by simp [fresh, LV.all])) ?_
    rintro e w4 ⟨v, uv', l, rfl, hl, hSL, hM, hs, hdj⟩
    rw [show outTells (fresh me peer wn res) = [] from rfl] at hl
    obtain rfl : l = [] := List.map_eq_nil_iff.1 hl
    obtain ⟨vo, vc, hv, _⟩ := own_slice hSL.r
    subst hv
    have HE4 : Hid _ := HE3.out.step hM hs
    have HB4 : Hid (Below w.heap.size w w4) := show Below _ _ _ from HB3.out.trans (hs.1.below HB3.out.size (fun k hk => Nat.le_trans HBL.out (HE3.out.lm.lt hk).1))
    clear hl hSL hM hs hdj HE3 HB3 c3
    have c4 : w4.cell? ⟨eb, 0, none⟩ = some (.pointer (some ⟨lb, 0, none⟩)) := HE4.out.cell
    go_wp2_with fail
    refine Calls.mono (under_any w4 HE4.out.lm (by simp [fresh, LV.calm, LV.moved]) (by simp [fresh, LV.calm, LV.moved]) (by simp [fresh, LV.calm, LV.moved]) (by simp [fresh, LV.calm, LV.moved])) ?_
    rintro e w5 ⟨v, l, rfl, hl, hSL, hb5⟩
    obtain rfl : l = [] := List.map_eq_nil_iff.1 (hl.trans (by simp [fresh, LV.calm, LV.moved, tell]))
    obtain ⟨vo2, vc2, hv, _⟩ := own_slice hSL.r
    subst hv
    have HB5 : Hid (Below w.heap.size w w5) := show Below _ _ _ from HB4.out.trans (hb5.mono HB4.out.size)
    clear hl hSL hb5 HE4 HB4 c4
    go_wp2_with fail
    go_ret
    exact ⟨rfl, HB5.out⟩
  · have HMD : Hid (∀ w1, Calls Try.prog 10 #[.int .i64 me, .int .i64 peer, .int .i64 win, .int .i64 res] w1 _) := fun w1 => made_no me peer win res w1 h
    clear h
    go_enter Try.func3, Try.ntmps3
    go_wp2_with fail
    refine Calls.mono HA.out ?_
    rintro e w1 ⟨rfl, hb1⟩
    have HB1 : Hid (Below w.heap.size w w1) := hb1
    clear hb1 HA
    go_wp2_with fail
    refine Calls.mono (HMD.out _) ?_
    rintro e w2 ⟨rfl, hb2⟩
    have HB2 : Hid (Below w.heap.size w w2) := show Below _ _ _ from HB1.out.trans (hb2.mono HB1.out.size)
    clear hb2 HMD HB1
    go_wp2_with fail
    go_ret
    exact ⟨rfl, HB2.out⟩
end Go.Proofs.Ytcjgicfmfjomgaa
