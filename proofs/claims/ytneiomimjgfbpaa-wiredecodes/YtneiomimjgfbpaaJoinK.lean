import Derived.Test.YtneiomimjgfbpaaJoinC
import Derived.Test.YtneiomimjgfbpaaJoinI
import Derived.Test.YtneiomimjgfbpaaJoinJ
import Derived.Test.YtneiomimjgfbpaaJoinE
import Derived.Test.YtneiomimjgfbpaaArgs
namespace Go.Proofs.Ytneiomimjgfbpaa
open Go.RowKit Go.PlainAid
set_option linter.unusedSimpArgs false
set_option linter.unusedVariables false
theorem rmsg_any (hb : Nat) (ao : Option Addr) (n cap : Nat) (bs : List UInt8) (st : Nat × Bool) (w : World) (hS : RdB w hb ao n cap bs st) (hsm : n ≤ 140737488355328) (hrm : n ≤ cap) (hnil : ao = none → n = 0 ∧ cap = 0) (hform : ao = none ∨ ∃ b off, ao = some ⟨b, off, none⟩) (hab : ∀ b o, ao = some ⟨b, o, none⟩ → b < w.heap.size) :
    Calls Try.prog 87 #[.pointer (some ⟨hb, 0, none⟩)] w fun e w' => MsgAns w (mstep bs st) e w' ∧ RdB w' hb ao n cap bs (mstep bs st).2 ∧ RX hb w w' := by
  have hr := rnum_range 1 10 bs st
  unfold mstep
  obtain ⟨r0, h0⟩ : ∃ r0, rstep (num 1 10) 0 bs st = r0 := ⟨_, rfl⟩
  rw [h0] at hr ⊢
  have hc : r0.1 = 0 ∨ r0.1 = 1 ∨ r0.1 = 2 ∨ r0.1 = 3 ∨ r0.1 = 4 ∨ r0.1 = 5 ∨ r0.1 = 6 ∨ r0.1 = 7 ∨ r0.1 = 8 ∨ r0.1 = 9 ∨ r0.1 = 10 := by omega
  rcases hc with h | h | h | h | h | h | h | h | h | h | h
  · have e : bodyF r0.1 bs r0.2 = p0 bs r0.2 := by rw [h]; rfl
    rw [e]; exact rmsg0_any hb ao n cap bs st w hS hsm hrm hnil hform hab r0 h0 h
  · have e : bodyF r0.1 bs r0.2 = p1 bs r0.2 := by rw [h]; rfl
    rw [e]; exact rmsg1_any hb ao n cap bs st w hS hsm hrm hnil hform hab r0 h0 h
  · have e : bodyF r0.1 bs r0.2 = p2 bs r0.2 := by rw [h]; rfl
    rw [e]
    unfold p2
    by_cases hh : hasCap (rstep (num 0 255) 0 bs (nstep [] bs (rstep (num 1 1099511627776) 0 bs (rstep (num 0 63) 0 bs r0.2).2).2).2).1 = true
    · rw [if_pos hh]
      simp only [hasCap, Bool.or_eq_true, beq_iff_eq] at hh
      rcases hh with hh | hh
      · exact rmsg2x_any hb ao n cap bs st w hS hsm hrm hnil hform hab r0 h0 h hh
      · exact rmsg2y_any hb ao n cap bs st w hS hsm hrm hnil hform hab r0 h0 h hh
    · rw [if_neg hh]
      simp only [hasCap, Bool.or_eq_true, beq_iff_eq, not_or] at hh
      exact rmsg2b_any hb ao n cap bs st w hS hsm hrm hnil hform hab r0 h0 h hh
  · have e : bodyF r0.1 bs r0.2 = p3 bs r0.2 := by rw [h]; rfl
    rw [e]; exact rmsg3_any hb ao n cap bs st w hS hsm hrm hnil hform hab r0 h0 h
  · have e : bodyF r0.1 bs r0.2 = p4 bs r0.2 := by rw [h]; rfl
    rw [e]; exact rmsg4_any hb ao n cap bs st w hS hsm hrm hnil hform hab r0 h0 h
  · have e : bodyF r0.1 bs r0.2 = p5 bs r0.2 := by rw [h]; rfl
    rw [e]; exact rmsg5_any hb ao n cap bs st w hS hsm hrm hnil hform hab r0 h0 h
  · have e : bodyF r0.1 bs r0.2 = p6 bs r0.2 := by rw [h]; rfl
    rw [e]; exact rmsg6_any hb ao n cap bs st w hS hsm hrm hnil hform hab r0 h0 h
  · have e : bodyF r0.1 bs r0.2 = p7 bs r0.2 := by rw [h]; rfl
    rw [e]; exact rmsg7_any hb ao n cap bs st w hS hsm hrm hnil hform hab r0 h0 h
  · have e : bodyF r0.1 bs r0.2 = p8 bs r0.2 := by rw [h]; rfl
    rw [e]; exact rmsg8_any hb ao n cap bs st w hS hsm hrm hnil hform hab r0 h0 h
  · have e : bodyF r0.1 bs r0.2 = p9 bs r0.2 := by rw [h]; rfl
    rw [e]; exact rmsg9_any hb ao n cap bs st w hS hsm hrm hnil hform hab r0 h0 h
  · have e : bodyF r0.1 bs r0.2 = p10 bs r0.2 := by rw [h]; rfl
    rw [e]; exact rmsg10_any hb ao n cap bs st w hS hsm hrm hnil hform hab r0 h0 h
end Go.Proofs.Ytneiomimjgfbpaa
namespace Go.Proofs.Ytneiomimjgfbpaa
open Go.RowKit Go.PlainAid
set_option linter.unusedSimpArgs false
set_option linter.unusedVariables false
def RDecPost (r : Res Msg) (w : World) (e : Ending) (w' : World) : Prop := Below w.heap.size w w' ∧ match r with
  | .error k => e = .returned (.tuple #[.agg zeroC, .int .i64 (k : Nat), .int .i64 20])
  | .ok (m, _) => ∃ ao c, e = .returned (.tuple #[.agg (msgCells m (.slice ao m.views.length c)), .int .i64 0, .int .i64 0]) ∧ w'.ownsRow w.heap.size 106 7 (.slice ao m.views.length c) m.views.length (rowV m.views) ∧ m.views.length ≤ 64
set_option maxRecDepth 100000 in
set_option maxHeartbeats 3200000 in
theorem rdec_any (ao : Option Addr) (n cap : Nat) (bs : List UInt8) (w : World) (hlen : bs.length = n) (hsrc : From w ao bs) (hab : ∀ b o, ao = some ⟨b, o, none⟩ → b < w.heap.size) (hsm : n ≤ 140737488355328) (hrm : n ≤ cap) (hnil : ao = none → n = 0 ∧ cap = 0) (hform : ao = none ∨ ∃ b off, ao = some ⟨b, off, none⟩) :
    Calls Try.prog 60 #[.slice ao n cap] w (RDecPost (whole message bs) w) := by
  have hz : (w.alloc (.cells zeroC 35)).heap.size = w.heap.size + 1 := World.size_alloc _ _
  have hb1 : Below w.heap.size w ((w.alloc (.cells zeroC 35)).alloc (.cells #[.slice ao n cap, .int .i64 0, .bool false] 146)) := ((Below.refl _ _).alloc (Nat.le_refl _) _).alloc (by simp) _
  have hR0 : RdB ((w.alloc (.cells zeroC 35)).alloc (.cells #[.slice ao n cap, .int .i64 0, .bool false] 146)) (w.heap.size + 1) ao n cap bs (0, false) := by
    refine ⟨?_, hlen, hsrc.keep fun b o e => hb1.block b (hab b o e), Nat.zero_le _⟩
    rw [← hz]
    exact heap_alloc_new _ _
  have hres0 : Blk ((w.alloc (.cells zeroC 35)).alloc (.cells #[.slice ao n cap, .int .i64 0, .bool false] 146)) w.heap.size zeroC 35 := (Below.heap_alloc _ _ _ (by simp)).trans (heap_alloc_new w _)
  have hzz : ((w.alloc (.cells zeroC 35)).alloc (.cells #[.slice ao n cap, .int .i64 0, .bool false] 146)).heap.size = w.heap.size + 2 := by simp
  have hm1 := rmsg_any (w.heap.size + 1) ao n cap bs (0, false) _ hR0 hsm hrm hnil hform (fun b o e => by have := hab b o e; omega)
  obtain ⟨HWA, HWB⟩ := whole_follows (f_msg bs)
  rw [hlen] at HWA HWB
  generalize mstep bs (0, false) = r6 at *
  have HA : Hid _ := HWA
  have HB : Hid _ := HWB
  clear HWA HWB
  go_enter Try.func60, Try.ntmps60
  go_wp2_with fail
  rw [zero_is]
  generalize ((w.alloc (.cells zeroC 35)).alloc (.cells #[.slice ao n cap, .int .i64 0, .bool false] 146)) = W1 at *
  refine hm1.mono ?_
  rintro e1 w1 ⟨⟨m, vo, vc, rfl, hOw, hl64, hm⟩, hT, hX⟩
  have hall : (msgCells m (.slice vo m.views.length vc)).all (·.oneCell') = true := by simp [msgCells, Value.oneCell', Str]
  obtain ⟨D, HD⟩ : ∃ D, Hid (D = msgCells m (.slice vo m.views.length vc)) := ⟨_, rfl⟩
  rw [← HD.out] at hall ⊢
  have hsz : D.size = 20 := by rw [HD.out]; rfl
  have hi35 : (Try.prog.info? 35).map (·.size) = some D.size := by rw [hsz]; kernel_rfl
  have hxs := hX.size
  have hB0 : Blk (w1.alloc (.cells zeroC 35)) w1.heap.size zeroC 35 := heap_alloc_new w1 _
  have hBm := setRow_blk (cs := D) hB0
  have hb4 : Below w1.heap.size w1 ((w1.alloc (.cells zeroC 35)).setRow w1.heap.size D) := (show Below w1.heap.size w1 (w1.alloc _) from by go_grown).trans ⟨rfl, rfl, rfl, by simp [World.setRow], fun k hk => setRow_other _ _ _ _ (by omega)⟩
  have hT4 := hT.keep hb4.block
  have hR4 : Blk ((w1.alloc (.cells zeroC 35)).setRow w1.heap.size D) w.heap.size zeroC 35 := (hb4.block _ (by omega)).trans ((hX.block _ (by omega) (by omega)).trans hres0)
  have hO4 := own_stableG hOw (w' := (w1.alloc (.cells zeroC 35)).setRow w1.heap.size D) fun k _ hk => hb4.block k hk
  have hL4 : Below w.heap.size w ((w1.alloc (.cells zeroC 35)).setRow w1.heap.size D) := (hb1.trans ⟨hX.os, hX.tape, hX.output, hX.size, fun k hk => hX.block k (by omega) (by omega)⟩).trans (hb4.mono (by omega))
  have hdn := rdone_any (w.heap.size + 1) ao n cap r6.2.1 bs r6.2.2 _ hT4.rds
  have HX : Hid _ := And.intro hR4 (And.intro hO4 (And.intro hL4 hBm))
  clear hR4 hO4 hL4 hT4 hOw hT hX hm1 hres0 hR0 hb1 hb4 hBm
  go_wp2_with (first | (rw [zero_is]; refine wpList_store_row rfl 35 (.tmp 6) (.tmp 13) rfl w1.heap.size D rfl rfl 35 zeroC hB0 hi35 (by rw [hsz]; rfl) hall ?_) | (refine wpList_store_row rfl 35 (.tmp 6) (.tmp 13) rfl w1.heap.size D rfl rfl 35 zeroC hB0 hi35 (by rw [hsz]; rfl) hall ?_) | fail)
  obtain ⟨hR4, hO4, hL4, hBm⟩ := HX.out
  clear HX hB0
  generalize (w1.alloc (.cells zeroC 35)).setRow w1.heap.size D = W4 at *
  by_cases hwr : r6.2.2 = true ∨ r6.2.1 < n
  · rw [if_pos hwr] at hdn
    have HW : Hid _ := HA.out hwr
    clear HA HB
    refine hdn.mono ?_
    rintro e8 w8 ⟨rfl, hD8⟩
    have hB0 : Blk w8 w.heap.size zeroC 35 := by unfold Blk; rw [hD8.heap]; exact hR4
    have hbB : Below w.heap.size w w8 := hL4.trans (hD8.below.mono hL4.size)
    have hfin : RDecPost (whole message bs) w (.returned (.tuple #[.agg zeroC, .int .i64 (r6.2.1 : Nat), .int .i64 20])) (w8.setRow w.heap.size zeroC) := by
      refine ⟨hbB.trans ⟨rfl, rfl, rfl, by simp [World.setRow], fun k hk => setRow_other _ _ _ _ (by omega)⟩, ?_⟩
      rw [HW.out]
    have hB3 := setRow_blk (cs := zeroC) hB0
    have HF : Hid _ := hfin
    clear hfin hbB hdn hR4 hO4 hL4 hBm
    go_wp2_with (first | (rw [zero_is]; refine wpList_store_row rfl 35 (.tmp 2) (.tmp 21) rfl w.heap.size zeroC rfl rfl 35 zeroC hB0 (by kernel_rfl) rfl (by kernel_rfl) ?_) | (refine wpList_store_row rfl 35 (.tmp 2) (.tmp 21) rfl w.heap.size zeroC rfl rfl 35 zeroC hB0 (by kernel_rfl) rfl (by kernel_rfl) ?_) | fail)
    go_wp2
    exact bodyPost_ret (results_cell2 Try.results60 _ _ w.heap.size zeroC rfl (run_loadVar_row _ _ 35 35 zeroC (0, 0) _ hB3 Try.underlying35 rfl (by kernel_rfl))) rfl HF.out
  · rw [if_neg hwr] at hdn
    have HW : Hid _ := HB.out hwr
    have hmm : m = r6.1 := hm (by cases h : r6.2.2 with | false => rfl | true => exact absurd (Or.inl h) hwr)
    clear HA HB
    refine hdn.mono ?_
    rintro e8 w8 ⟨rfl, hD8⟩
    have hB0 : Blk w8 w.heap.size zeroC 35 := by unfold Blk; rw [hD8.heap]; exact hR4
    have hM : Blk w8 w1.heap.size D 35 := by unfold Blk; rw [hD8.heap]; exact hBm
    have hbB : Below w.heap.size w w8 := hL4.trans (hD8.below.mono hL4.size)
    have hO8 := own_stableG hO4 (w' := w8) fun k _ _ => by rw [hD8.heap]
    have hfin : RDecPost (whole message bs) w (.returned (.tuple #[.agg D, .int .i64 0, .int .i64 0])) (w8.setRow w.heap.size D) := by
      refine ⟨hbB.trans ⟨rfl, rfl, rfl, by simp [World.setRow], fun k hk => setRow_other _ _ _ _ (by omega)⟩, ?_⟩
      rw [HW.out, ← hmm]
      exact ⟨vo, vc, by rw [HD.out], own_monoG (own_stableG hO8 fun k h3 _ => setRow_other _ _ _ _ (by omega)) (by omega), hl64⟩
    have hB3 := setRow_blk (cs := D) hB0
    have HF : Hid _ := hfin
    clear hfin hbB hdn hR4 hO4 hL4 hBm hO8 hmm hm
    go_wp2_with (first | (refine wpList_load_row rfl 35 (.tmp 6) rfl w1.heap.size rfl 35 D (0, 0) _ hM Try.underlying35 rfl hi35 ?_) | (refine wpList_store_row rfl 35 (.tmp 2) (.tmp 24) rfl w.heap.size D rfl rfl 35 zeroC hB0 hi35 (by rw [hsz]; rfl) hall ?_) | fail)
    go_wp2
    exact bodyPost_ret (results_cell2 Try.results60 _ _ w.heap.size D rfl (run_loadVar_row _ _ 35 35 D (0, 0) _ hB3 Try.underlying35 rfl hi35)) rfl HF.out
end Go.Proofs.Ytneiomimjgfbpaa
namespace Go.Proofs.Ytneiomimjgfbpaa
open Go.RowKit Go.PlainAid
set_option linter.unusedSimpArgs false
set_option linter.unusedVariables false
def msgOf (r : Res Msg) : Msg := match r with
  | .error _ => Msg.zero
  | .ok (m, _) => m
/-- What a decoder of messages answered, as one tuple. -/
def DView (r : Res Msg) (w : World) (e : Ending) (w' : World) : Prop :=
  ∃ D ao c, e = .returned (.tuple #[.agg D, .int .i64 (posR r), .int .i64 (codeR r)]) ∧ D = msgCells (msgOf r) (.slice ao (msgOf r).views.length c) ∧ VFrom w' ao (msgOf r).views ∧ (∀ b o, ao = some ⟨b, o, none⟩ → w.heap.size ≤ b ∧ b < w'.heap.size) ∧ Below w.heap.size w w'
theorem dview_of {r : Res Msg} {w : World} {e : Ending} {w' : World} (h : DecPost r w e w') : DView r w e w' := by
  obtain ⟨hb, h⟩ := h
  cases r with
  | error k => exact ⟨zeroC, none, 0, h, rfl, (fun i x h => by cases h), (fun b o e => by cases e), hb⟩
  | ok v =>
    obtain ⟨m, k⟩ := v
    obtain ⟨ao, c, rfl, hv⟩ := h
    refine ⟨_, ao, c, rfl, rfl, (VRow.vfrom hv).1, fun b o e => ⟨?_, (VRow.vfrom hv).2 b o e⟩, hb⟩
    rcases hv with ⟨_, h, _⟩ | ⟨vb, h1, h2, _⟩
    · rw [h] at e; cases e
    · rw [h1] at e; cases e; exact h2
theorem rowV_at (l : List View) (i j : Nat) (x : View) (c : Value) (hx : l[i]? = some x) (hc : (viewCells x)[j]? = some c) : (rowV l)[i * 7 + j]? = some c := by
  have hl : ∀ v : View, (viewCells v).length = 7 := fun v => rfl
  induction l generalizing i with
  | nil => cases hx
  | cons a l ih =>
    have e : rowV (a :: l) = viewCells a ++ rowV l := by simp [rowV]
    rw [e]
    cases i with
    | zero =>
      simp only [List.getElem?_cons_zero, Option.some.injEq] at hx
      subst hx
      rw [Nat.zero_mul, Nat.zero_add, List.getElem?_append_left (List.getElem?_eq_some_iff.1 hc).1]
      exact hc
    | succ i =>
      rw [List.getElem?_append_right (by rw [hl]; omega), hl, show (i + 1) * 7 + j - 7 = i * 7 + j by omega]
      exact ih i (by simpa using hx)
theorem dview_ref {r : Res Msg} {w : World} {e : Ending} {w' : World} (h : RDecPost r w e w') : DView r w e w' ∧ (msgOf r).views.length ≤ 64 := by
  obtain ⟨hb, h⟩ := h
  cases r with
  | error k => exact ⟨⟨zeroC, none, 0, h, rfl, (fun i x h => by cases h), (fun b o e => by cases e), hb⟩, Nat.zero_le _⟩
  | ok v =>
    obtain ⟨m, k⟩ := v
    obtain ⟨ao, c, rfl, hv, hl⟩ := h
    refine ⟨⟨_, ao, c, rfl, rfl, fun i x hx => ?_, fun b o e => ?_, hb⟩, hl⟩
    · have hx' : m.views[i]? = some x := hx
      have hi := (List.getElem?_eq_some_iff.1 hx').1
      rcases hv.2 with ⟨h1, h2⟩ | ⟨g, cp, cur, h1, h2, h3, h4, h5, h6, h7⟩
      · omega
      · simp only [Value.slice.injEq] at h1
        refine ⟨g, 0, h1.1, fun j c' hc' => ?_⟩
        have hB : Blk w' g cur 106 := h3
        have h8 := rowV_at _ _ _ _ _ hx' hc'
        rw [← h7, List.getElem?_take] at h8
        split at h8
        · rw [Nat.zero_add, hB.cell, ← h8, Array.getElem?_toList]
        · cases h8
    · have := hv.lt b (by subst e; rfl)
      exact this
set_option maxRecDepth 100000 in
set_option maxHeartbeats 6400000 in
theorem decodes_any (bo : Option Addr) (n cap : Nat) (bs : List UInt8) (w : World)
    (hlen : bs.length = n) (hsrc : From w bo bs) (hab : ∀ b o, bo = some ⟨b, o, none⟩ → b < w.heap.size) (hsm : n ≤ 140737488351232) (hrm : n ≤ cap) (hbnil : bo = none → n = 0 ∧ cap = 0) (hform : bo = none ∨ ∃ b off, bo = some ⟨b, off, none⟩) :
    Calls Try.prog 27 #[.slice bo n cap] w fun e w' => e = .returned (.bool true) ∧ Below w.heap.size w w' := by
  go_enter Try.func27, Try.ntmps27
  go_wp2_with fail
  refine (lent_row bo n cap bs w hlen hbnil hsrc (by omega)).mono ?_
  rintro e1 w1 ⟨g, c, rfl, hc1, hg1, hg1', hO1, hb1⟩
  have hr1 := From.below hsrc hb1
  have hfl1 : From w1 (some ⟨g, 0, none⟩) bs := fun h0 => ⟨g, 0, rfl, fun j u hu => by rw [Nat.zero_add]; exact own_cellB hO1 (by rw [List.getElem?_append_left (List.getElem?_eq_some_iff.1 hu).1]; exact hu)⟩
  have hde := decode_any g 0 n c bs w1 hlen hfl1 hg1' (by omega) (by omega)
  have HX : Hid _ := And.intro hr1 (And.intro hO1 hb1)
  clear hr1 hO1 hb1 hfl1 hsrc
  go_wp2_with fail
  refine hde.mono ?_
  intro e2 w2 h2
  obtain ⟨D1, ao1, k1, rfl, hD1, hv1, hbl1, hb2⟩ := dview_of h2
  obtain ⟨hr1, hO1, hb1⟩ := HX.out
  clear h2 hde HX
  have hall1 : D1.all (·.oneCell') = true := by rw [hD1]; simp [msgCells, Value.oneCell', Str]
  have hsz1 : D1.size = 20 := by rw [hD1]; rfl
  have hi1 : (Try.prog.info? 35).map (·.size) = some D1.size := by rw [hsz1]; kernel_rfl
  have HD1 : Hid _ := hD1
  clear hD1
  have hB0 : Blk (w2.alloc (.cells zeroC 35)) w2.heap.size zeroC 35 := heap_alloc_new w2 _
  have hBm := setRow_blk (cs := D1) hB0
  have hb3 : Below w2.heap.size w2 ((w2.alloc (.cells zeroC 35)).setRow w2.heap.size D1) := (show Below w2.heap.size w2 (w2.alloc _) from by go_grown).trans ⟨rfl, rfl, rfl, by simp [World.setRow], fun k hk => setRow_other _ _ _ _ (by omega)⟩
  have hb23 := hb2.trans (hb3.mono hb2.size)
  have hL3 := hb1.trans (hb23.mono hb1.size)
  have hr3 := From.below hr1 hb23
  have hO3 := own_stable hO1 (w' := (w2.alloc (.cells zeroC 35)).setRow w2.heap.size D1) fun k _ hk => hb23.block k hk
  have hv3 : VFrom ((w2.alloc (.cells zeroC 35)).setRow w2.heap.size D1) ao1 (msgOf (whole message bs)).views := hv1.keep fun b o e => hb3.block b (hbl1 b o e).2
  have hsw3 : ((w2.alloc (.cells zeroC 35)).setRow w2.heap.size D1).heap.size = w2.heap.size + 1 := by simp [World.setRow]
  have hre := rdec_any bo n cap bs ((w2.alloc (.cells zeroC 35)).setRow w2.heap.size D1) hlen hr3 (fun b o e => by have := hab b o e; have := hL3.size; omega) (by omega) hrm hbnil hform
  have hz12 := hb2.size
  have hz1 := hb1.size
  have HX : Hid _ := And.intro hL3 (And.intro hr3 (And.intro hO3 (And.intro hv3 (And.intro hbl1 (And.intro hBm hsw3)))))
  clear hL3 hr3 hO3 hv3 hbl1 hBm hsw3 hb23 hb3 hb2 hb1 hv1 hr1 hO1
  go_wp2_with (first | (rw [zero_is]; refine wpList_store_row rfl 35 (.tmp 4) (.tmp 19) rfl w2.heap.size D1 rfl rfl 35 zeroC hB0 hi1 (by rw [hsz1]; rfl) hall1 ?_) | (refine wpList_store_row rfl 35 (.tmp 4) (.tmp 19) rfl w2.heap.size D1 rfl rfl 35 zeroC hB0 hi1 (by rw [hsz1]; rfl) hall1 ?_) | fail)
  obtain ⟨hL3, hr3, hO3, hv3, hbl1, hBm, hsw3⟩ := HX.out
  clear HX hB0
  generalize (w2.alloc (.cells zeroC 35)).setRow w2.heap.size D1 = W3 at *
  refine hre.mono ?_
  intro e4 w4 h4
  obtain ⟨⟨D2, ao2, k2, rfl, hD2, hv4, hbl2, hb4⟩, hl64⟩ := dview_ref h4
  clear h4 hre
  have hall2 : D2.all (·.oneCell') = true := by rw [hD2]; simp [msgCells, Value.oneCell', Str]
  have hsz2 : D2.size = 20 := by rw [hD2]; rfl
  have hi2 : (Try.prog.info? 35).map (·.size) = some D2.size := by rw [hsz2]; kernel_rfl
  have hB0 : Blk (w4.alloc (.cells zeroC 35)) w4.heap.size zeroC 35 := heap_alloc_new w4 _
  have hBn := setRow_blk (cs := D2) hB0
  have hb5 : Below w4.heap.size w4 ((w4.alloc (.cells zeroC 35)).setRow w4.heap.size D2) := (show Below w4.heap.size w4 (w4.alloc _) from by go_grown).trans ⟨rfl, rfl, rfl, by simp [World.setRow], fun k hk => setRow_other _ _ _ _ (by omega)⟩
  have hb45 := hb4.trans (hb5.mono hb4.size)
  have hL5 := hL3.trans (hb45.mono hL3.size)
  have hr5 := From.below hr3 hb45
  have hO5 := own_stable hO3 (w' := (w4.alloc (.cells zeroC 35)).setRow w4.heap.size D2) fun k _ hk => hb45.block k hk
  have hv5 : VFrom ((w4.alloc (.cells zeroC 35)).setRow w4.heap.size D2) ao1 (msgOf (whole message bs)).views := hv3.keep fun b o e => hb45.block b (by have := (hbl1 b o e).2; omega)
  have hv6 : VFrom ((w4.alloc (.cells zeroC 35)).setRow w4.heap.size D2) ao2 (msgOf (whole message bs)).views := hv4.keep fun b o e => hb5.block b (hbl2 b o e).2
  have hBm5 : Blk ((w4.alloc (.cells zeroC 35)).setRow w4.heap.size D2) w2.heap.size D1 35 := (hb45.block _ hBm.lt).trans hBm
  have hsw5 : ((w4.alloc (.cells zeroC 35)).setRow w4.heap.size D2).heap.size = w4.heap.size + 1 := by simp [World.setRow]
  have hbk := back_row g n c w.heap.size bo cap bs ((w4.alloc (.cells zeroC 35)).setRow w4.heap.size D2) hlen (by omega) hO5 hr5
  have hz34 := hb4.size
  have HX : Hid _ := And.intro hL5 (And.intro hr5 (And.intro hv5 (And.intro hv6 (And.intro hBm5 (And.intro hBn (And.intro hbl1 (And.intro hbl2 hsw5)))))))
  have HD2 : Hid _ := hD2
  clear hL5 hr5 hO5 hv5 hv6 hBm5 hsw5 hb45 hb5 hb4 hL3 hr3 hO3 hv3 hbl1 hBm hv4 hbl2 hBn hD2
  generalize hpos : posR (whole message bs) = pos at *
  generalize hcod : codeR (whole message bs) = cod at *
  generalize hmsg : msgOf (whole message bs) = mm at *
  clear hpos hcod hmsg
  go_wp2_with (first | (rw [zero_is]; refine wpList_store_row rfl 35 (.tmp 7) (.tmp 25) rfl w4.heap.size D2 rfl rfl 35 zeroC hB0 hi2 (by rw [hsz2]; rfl) hall2 ?_) | (refine wpList_store_row rfl 35 (.tmp 7) (.tmp 25) rfl w4.heap.size D2 rfl rfl 35 zeroC hB0 hi2 (by rw [hsz2]; rfl) hall2 ?_) | fail)
  obtain ⟨hL5, hr5, hv5, hv6, hBm5, hBn, hbl1, hbl2, hsw5⟩ := HX.out
  clear HX hB0
  generalize (w4.alloc (.cells zeroC 35)).setRow w4.heap.size D2 = W5 at *
  refine hbk.mono ?_
  rintro e6 w6 ⟨rfl, hW6, zs, hzl, hO6⟩
  have hL6 := BelowRW hL5 hW6 (by omega)
  have hr6 := FromRW hr5 hW6 (fun b o e => by have := hab b o e; omega)
  have hv56 : VFrom w6 ao1 mm.views := hv5.keep fun b o e => hW6.block b (by have := (hbl1 b o e).1; omega)
  have hv66 : VFrom w6 ao2 mm.views := hv6.keep fun b o e => hW6.block b (by have := (hbl2 b o e).1; omega)
  have hB16 : Blk w6 w2.heap.size D1 35 := (hW6.block _ (by omega)).trans hBm5
  have hB26 : Blk w6 w4.heap.size D2 35 := (hW6.block _ (by omega)).trans hBn
  have hz6 := hW6.size
  have hsame := same_any mm mm ao1 ao2 k1 k2 w6 hv56 hv66 (fun b o e => by have := (hbl1 b o e).2; omega) (fun b o e => by have := (hbl2 b o e).2; omega) (by omega)
  rw [(sameB_iff mm mm).2 rfl, ← HD1.out, ← HD2.out] at hsame
  have HX : Hid _ := And.intro hL6 (And.intro hr6 hO6)
  have HBB : Hid _ := And.intro hB16 hB26
  clear hL6 hr6 hO6 hv56 hv66 hbk hW6 hL5 hr5 hv5 hv6 hBm5 hBn hbl1 hbl2 HD1 HD2
  go_wp2_with (first | (refine load_row_g 35 (.tmp 4) rfl (by rfl) w2.heap.size rfl 35 D1 (0, 0) _ hB16 Try.underlying35 hi1 ?_) | (refine load_row_g 35 (.tmp 7) rfl (by rfl) w4.heap.size rfl 35 D2 (0, 0) _ hB26 Try.underlying35 hi2 ?_) | (go_at_call 13; refine hsame.mono ?_; rintro e7 w7 ⟨rfl, hb7⟩) | fail)
  obtain ⟨hL6, hr6, hO6⟩ := HX.out
  obtain ⟨hB16, hB26⟩ := HBB.out
  have hL7 := hL6.trans (hb7.mono hL6.size)
  have hr7 := From.below hr6 hb7
  have hO7 : World.ownsRow w7 w.heap.size 5 1 (.slice (some ⟨g, 0, none⟩) (n + 2) c) (n + 2) (zs.map B) := own_stable hO6 (w' := w7) fun k _ hk => hb7.block k hk
  have hB17 : Blk w7 w2.heap.size D1 35 := (hb7.block _ hB16.lt).trans hB16
  have hB27 : Blk w7 w4.heap.size D2 35 := (hb7.block _ hB26.lt).trans hB26
  have hz7 := hb7.size
  have HX7 : Hid _ := And.intro hL7 (And.intro hB17 (And.intro hB27 hz7))
  have HO : Hid (World.ownsRow w7 w.heap.size 5 1 (.slice (some ⟨g, 0, none⟩) (n + 2) c) (n + 2) (zs.map B)) := hO7
  have HZ : Hid _ := hzl
  have HR : Hid _ := hr7
  have HLN : Hid _ := hlen
  have hgb : ∀ b o, bo = some ⟨b, o, none⟩ → b ≠ g := fun b o e => by have := hab b o e; omega
  have hw2 : w.heap.size ≤ w2.heap.size := by omega
  have hw4 : w.heap.size ≤ w4.heap.size := by omega
  have hne1 : w2.heap.size ≠ g := by omega
  have hne2 : w4.heap.size ≠ g := by omega
  have hne3 : w2.heap.size ≠ w4.heap.size := by omega
  have hgw : g < w7.heap.size := by omega
  have hwg : w.heap.size ≤ g := by omega
  clear hL6 hr6 hO6 hB16 hB26 hL7 hr7 hO7 hB17 hB27 hz7 hzl hb7 HBB hsame hlen hz6 hz12 hz1 hz34 hsw3 hsw5
  go_loopw [10] (fun iv wr => ∃ (k : Nat) (ys : List UInt8), k ≤ n ∧ iv = .int .i64 (k : Nat) ∧ ys.length = n + 2 ∧ World.ownsRow wr w.heap.size 5 1 (.slice (some ⟨g, 0, none⟩) (n + 2) c) (n + 2) (ys.map B) ∧ ys.take k = bs.reverse.take k ∧ RW g w7 wr) (fun iv _ => n - (intOf iv).toNat)
  case atStart => exact ⟨0, zs, by omega, rfl, HZ.out, HO.out, by simp, RW.refl _ _⟩
  case round =>
    obtain ⟨k, ys, hk, rfl, hyl, hOr, hyt, hWr⟩ := hrel
    by_cases hkn : k < n
    · have hrr := FromRW HR.out hWr hgb
      obtain ⟨b, off, rfl, hcb⟩ := hrr (by rw [HLN.out]; omega)
      obtain ⟨u, hu⟩ : ∃ u, bs[n - 1 - k]? = some u := ⟨_, List.getElem?_eq_getElem (by rw [HLN.out]; omega)⟩
      have cu : wr.cell? ⟨b, off + (n - 1 - k), none⟩ = some (.int .u8 ((u.toNat : Nat) : Int)) := hcb (n - 1 - k) u hu
      obtain ⟨y, hy⟩ : ∃ y, ys[k]? = some y := ⟨_, List.getElem?_eq_getElem (by omega)⟩
      have cy : wr.cell? ⟨g, k, none⟩ = some (.int .u8 ((y.toNat : Nat) : Int)) := own_cellB hOr hy
      obtain ⟨hnew, hz⟩ := own_setB (k := k) hOr u
      have hWn : RW g w7 (wr.setCell ⟨g, k, none⟩ (B u)) := hWr.set k _
      have hyt2 : (ys.set k u).take (k + 1) = bs.reverse.take (k + 1) := by
        have e1 : bs.reverse[k]? = some u := by rw [List.getElem?_reverse (by rw [HLN.out]; exact hkn), HLN.out, hu]
        have e2 : (ys.set k u)[k]? = some u := by rw [List.getElem?_set_self (by omega)]
        rw [List.take_add_one, List.take_add_one, e1, e2, List.take_set_of_le (Nat.le_refl k), hyt]
      have HN : Hid (World.ownsRow (wr.setCell ⟨g, k, none⟩ (B u)) w.heap.size 5 1 (.slice (some ⟨g, 0, none⟩) (n + 2) c) (n + 2) ((ys.set k u).map B)) := hnew
      have HW : Hid _ := And.intro hWn (And.intro hyt2 hyl)
      clear hnew hWn hyt2 hOr hyt hWr hrr hcb hu hy hyl
      have i1 : IntKind.i64.wrap ((n : Int) - 1) = ((n - 1 : Nat) : Int) := by rw [IntKind.wrap_i64]; omega
      have i2 : IntKind.i64.wrap (((n - 1 : Nat) : Int) - (k : Int)) = ((n - 1 - k : Nat) : Int) := by rw [IntKind.wrap_i64]; omega
      have i3 : n - 1 - k < n := by omega
      go_wp2
      go_roundw
      case rel => exact ⟨k + 1, _, by omega, by go_num, by rw [List.length_set]; exact HW.out.2.2, HN.out, HW.out.2.1, HW.out.1⟩
      case measure => simp [intOf]; omega
    · obtain rfl : k = n := by omega
      obtain ⟨hL7, hB17, hB27, _⟩ := HX7.out
      have hL8 := BelowRW hL7 hWr hwg
      have hB18 : Blk wr w2.heap.size D1 35 := (hWr.block _ hne1).trans hB17
      have hB28 : Blk wr w4.heap.size D2 35 := (hWr.block _ hne2).trans hB27
      have hz8 := hWr.size
      have hrl : bs.reverse.length = k := by rw [List.length_reverse]; exact HLN.out
      obtain ⟨rs, hrs⟩ : ∃ rs, rs = bs.reverse := ⟨_, rfl⟩
      rw [← hrs] at hrl hyt
      clear hrs
      have hfl8 : From wr (some ⟨g, 0, none⟩) rs := fun h0 => ⟨g, 0, rfl, fun j u hu => by
        rw [Nat.zero_add]
        refine own_cellB hOr ?_
        have hj := (List.getElem?_eq_some_iff.1 hu).1
        have e1 : (rs.take k)[j]? = some u := by rw [List.getElem?_take, if_pos (by omega)]; exact hu
        rw [← hyt, List.getElem?_take, if_pos (by omega)] at e1
        exact e1⟩
      have hde := decode_any g 0 k c rs wr hrl hfl8 (by omega) (by omega) (by omega)
      have HX2 : Hid _ := And.intro hL8 (And.intro hB18 (And.intro hB28 hfl8))
      clear hL7 hB17 hB27 hL8 hB18 hB28 hfl8 hyt hOr hWr hyl HX7 HO HZ HR HLN hgb
      go_wp2_with fail
      refine hde.mono ?_
      intro e9 w9 h9
      obtain ⟨D3, ao3, k3, rfl, hD3, hv9, hbl3, hb9⟩ := dview_of h9
      obtain ⟨hL8, hB18, hB28, hfl8⟩ := HX2.out
      clear h9 hde HX2
      have hall3 : D3.all (·.oneCell') = true := by rw [hD3]; simp [msgCells, Value.oneCell', Str]
      have hsz3 : D3.size = 20 := by rw [hD3]; rfl
      have hi3 : (Try.prog.info? 35).map (·.size) = some D3.size := by rw [hsz3]; kernel_rfl
      have HD3 : Hid _ := hD3
      clear hD3
      have hB19 : Blk w9 w2.heap.size D1 35 := (hb9.block _ hB18.lt).trans hB18
      have hBm := setRow_blk (cs := D3) hB19
      have hk9 : ∀ j, j ≠ w2.heap.size → (w9.setRow w2.heap.size D3).heap[j]? = w9.heap[j]? := fun j hj => setRow_other _ _ _ _ hj
      have hz9 := hb9.size
      have hl2 := hB18.lt
      have hl4 := hB28.lt
      have hs10 : (w9.setRow w2.heap.size D3).heap.size = w9.heap.size := by simp [World.setRow]
      have hL10 : Below w.heap.size w (w9.setRow w2.heap.size D3) := (hL8.trans (hb9.mono hL8.size)).trans ⟨rfl, rfl, rfl, by simp [World.setRow], fun j hj => hk9 j (by omega)⟩
      have hB210 : Blk (w9.setRow w2.heap.size D3) w4.heap.size D2 35 := (hk9 _ hne3.symm).trans ((hb9.block _ hl4).trans hB28)
      have hfl10 : From (w9.setRow w2.heap.size D3) (some ⟨g, 0, none⟩) rs := (From.below hfl8 hb9).keep fun b o e => hk9 b (by cases e; omega)
      have hv10 : VFrom (w9.setRow w2.heap.size D3) ao3 (msgOf (whole message rs)).views := hv9.keep fun b o e => hk9 b (by have := (hbl3 b o e).1; omega)
      have HX2 : Hid _ := And.intro hL10 (And.intro hBm (And.intro hB210 (And.intro hv10 (And.intro hbl3 hs10))))
      clear hL8 hB18 hB28 hfl8 hL10 hB210 hv9 hv10 hbl3 hb9 hk9 hBm
      go_wp2_with (first | (refine wpList_store_row rfl 35 (.tmp 4) (.tmp 71) rfl w2.heap.size D3 rfl rfl 35 D1 hB19 hi3 (by rw [hsz3, hsz1]) hall3 ?_) | (at_builtin; go_must (refine wpList_append_bytes rfl _ _ rfl (w9.setRow w2.heap.size D3).heap.size 0 _ [] rfl (World.ownsRow_nil _ _ _ _) (some ⟨g, 0, none⟩) k c rs rfl hrl (by intro h; cases h) hfl10 (by omega) (Nat.le_refl _) ?_)) | fail)
      intro v11 w11 hown11 hg11
      obtain ⟨hL10, hBm, hB210, hv10, hbl3, hs10⟩ := HX2.out
      generalize hW10 : w9.setRow w2.heap.size D3 = W10 at *
      clear hW10 HX2
      have hb11 : Below W10.heap.size W10 w11 := (Below.refl _ _).grown hg11 (Nat.le_refl _) (fun j h => by cases h)
      have hown11 : w11.ownsRow W10.heap.size 5 1 v11 k (rs.map B) := by rw [hs10]; simpa using hown11
      obtain ⟨ao11, cap11, rfl, hc11, hn11, hs11, hl11⟩ := own_from hown11
      have hform11 : ao11 = none ∨ ∃ b off, ao11 = some ⟨b, off, none⟩ := by
        rcases hown11.2 with ⟨h1, _⟩ | ⟨g', c', cur, h1, _⟩
        · simp only [Value.slice.injEq] at h1; exact Or.inl h1.1
        · simp only [Value.slice.injEq] at h1; exact Or.inr ⟨g', 0, h1.1⟩
      have hlt11 : ∀ b o, ao11 = some ⟨b, o, none⟩ → b < w11.heap.size := fun b o e => by subst e; exact (hown11.lt b rfl).2
      have hL11 := hL10.trans (hb11.mono hL10.size)
      have hBm11 : Blk w11 w2.heap.size D3 35 := (hb11.block _ hBm.lt).trans hBm
      have hB211 : Blk w11 w4.heap.size D2 35 := (hb11.block _ hB210.lt).trans hB210
      have hv11 : VFrom w11 ao3 (msgOf (whole message rs)).views := hv10.keep fun b o e => hb11.block b (by have := (hbl3 b o e).2; omega)
      have hz11 := hb11.size
      have hre := rdec_any ao11 k cap11 rs w11 hrl hs11 hlt11 (by omega) hc11 hn11 hform11
      have HX2 : Hid _ := And.intro hL11 (And.intro hBm11 (And.intro hB211 (And.intro hv11 hbl3)))
      clear hL10 hBm hB210 hv10 hbl3 hL11 hBm11 hB211 hv11 hb11 hown11 hs11 hg11 hlt11
      go_wp2_with fail
      refine hre.mono ?_
      intro e12 w12 h12
      obtain ⟨⟨D4, ao4, k4, rfl, hD4, hv12, hbl4, hb12⟩, hl64'⟩ := dview_ref h12
      obtain ⟨hL11, hBm11, hB211, hv11, hbl3⟩ := HX2.out
      clear h12 hre HX2
      have hall4 : D4.all (·.oneCell') = true := by rw [hD4]; simp [msgCells, Value.oneCell', Str]
      have hsz4 : D4.size = 20 := by rw [hD4]; rfl
      have hi4 : (Try.prog.info? 35).map (·.size) = some D4.size := by rw [hsz4]; kernel_rfl
      have HD4 : Hid _ := hD4
      clear hD4
      have hB212 : Blk w12 w4.heap.size D2 35 := (hb12.block _ hB211.lt).trans hB211
      have hk12 : ∀ j, j ≠ w4.heap.size → (w12.setRow w4.heap.size D4).heap[j]? = w12.heap[j]? := fun j hj => setRow_other _ _ _ _ hj
      have hz12' := hb12.size
      have hs13 : (w12.setRow w4.heap.size D4).heap.size = w12.heap.size := by simp [World.setRow]
      have hBn13 := setRow_blk (cs := D4) hB212
      have hBm13 : Blk (w12.setRow w4.heap.size D4) w2.heap.size D3 35 := (hk12 _ hne3).trans ((hb12.block _ hBm11.lt).trans hBm11)
      have hL13 : Below w.heap.size w (w12.setRow w4.heap.size D4) := (hL11.trans (hb12.mono hL11.size)).trans ⟨rfl, rfl, rfl, by simp [World.setRow], fun j hj => hk12 j (by omega)⟩
      have hv3' : VFrom (w12.setRow w4.heap.size D4) ao3 (msgOf (whole message rs)).views := (hv11.keep fun b o e => hb12.block b (by have := (hbl3 b o e).2; omega)).keep fun b o e => hk12 b (by have := (hbl3 b o e).1; omega)
      have hv4' : VFrom (w12.setRow w4.heap.size D4) ao4 (msgOf (whole message rs)).views := hv12.keep fun b o e => hk12 b (by have := (hbl4 b o e).1; omega)
      generalize hpos : posR (whole message rs) = pos2 at *
      generalize hcod : codeR (whole message rs) = cod2 at *
      generalize hmsg : msgOf (whole message rs) = mm2 at *
      clear hpos hcod hmsg
      have hsame := same_any mm2 mm2 ao3 ao4 k3 k4 (w12.setRow w4.heap.size D4) hv3' hv4' (fun b o e => by have := (hbl3 b o e).2; omega) (fun b o e => by have := (hbl4 b o e).2; omega) (by omega)
      rw [(sameB_iff mm2 mm2).2 rfl, ← HD3.out, ← HD4.out] at hsame
      have HL : Hid _ := hL13
      clear hL13 hv3' hv4' hbl3 hbl4 hv12 hv11 hL11 hBm11 hB211 hb12 hk12 HD3 HD4 hs13
      go_wp2_with (first | (refine wpList_store_row rfl 35 (.tmp 7) (.tmp 81) rfl w4.heap.size D4 rfl rfl 35 D2 hB212 hi4 (by rw [hsz4, hsz2]) hall4 ?_) | (refine load_row_g 35 (.tmp 4) rfl (by rfl) w2.heap.size rfl 35 D3 (0, 0) _ hBm13 Try.underlying35 hi3 ?_) | (refine load_row_g 35 (.tmp 7) rfl (by rfl) w4.heap.size rfl 35 D4 (0, 0) _ hBn13 Try.underlying35 hi4 ?_) | (go_at_call 13; refine hsame.mono ?_; rintro e14 w14 ⟨rfl, hb14⟩) | fail)
      go_ret
      exact ⟨rfl, HL.out.trans (hb14.mono HL.out.size)⟩
end Go.Proofs.Ytneiomimjgfbpaa
namespace Go.Proofs.Ytneiomimjgfbpaa
open Go.RowKit Go.PlainAid
set_option linter.unusedSimpArgs false
set_option linter.unusedVariables false
set_option maxRecDepth 100000 in
set_option maxHeartbeats 1600000 in
theorem dec_law (bo : Option Addr) (n cap : Nat) (bs : List UInt8) (w : World)
    (hlen : bs.length = n) (hsrc : From w bo bs) (hab : ∀ b o, bo = some ⟨b, o, none⟩ → b < w.heap.size) (hsm : n ≤ 140737488351232) (hrm : n ≤ cap) (hbnil : bo = none → n = 0 ∧ cap = 0) (hform : bo = none ∨ ∃ b off, bo = some ⟨b, off, none⟩) :
    Calls Try.prog 6 #[.slice bo n cap] w fun e w' => e = .returned (.bool true) ∧ Below w.heap.size w w' := by
  have HQ : Hid _ := decodes_any bo n cap bs
  have hable := able_any w
  have HS : Hid _ := hsrc
  clear hsrc
  go_enter Try.func6, Try.ntmps6
  go_wp2_with fail
  refine hable.mono ?_
  rintro e9 w9 ⟨rfl, hb9⟩
  have hr9 := From.below HS.out hb9
  have hq := HQ.out w9 hlen hr9 (fun b o e => by have := hab b o e; have := hb9.size; omega) hsm hrm hbnil hform
  have HB : Hid _ := hb9
  clear hable hb9 hr9 HQ HS
  go_wp2_with (first | (go_at_call 27; refine hq.mono ?_; rintro e27 w27 ⟨rfl, hb27⟩) | fail)
  go_ret
  exact ⟨rfl, HB.out.trans (hb27.mono HB.out.size)⟩
end Go.Proofs.Ytneiomimjgfbpaa
namespace Go.Proofs.Ytneiomimjgfbpaa
open Go.ChangeShapes Go.WideShapes Go.ChangeAt Go.RowKit Go.WideMaps Go.WideElems
set_option linter.unusedSimpArgs false
set_option maxRecDepth 100000 in
theorem has_ltD {W : World} {base n : Nat} {a : Addr} {e : TypeId} (h : W.has Try.prog .any base a e n) : a.block < W.heap.size ∧ a.spot = none := by
  obtain ⟨_, hsp, row, cells, hs, _⟩ := h
  refine ⟨?_, hsp⟩
  unfold World.shape? at hs
  cases hb : W.heap[a.block]? with
  | none => rw [hb] at hs; cases hs
  | some x => exact (Array.getElem?_eq_some_iff.1 hb).1
set_option maxRecDepth 100000 in
theorem bytes_ltD {W : World} {base n c : Nat} {ao : Option Addr} (h : Value.okWide Try.prog W .any base 22 (.slice ao n c)) : (∀ b o, ao = some ⟨b, o, none⟩ → b < W.heap.size) ∧ (ao = none ∨ ∃ b off, ao = some ⟨b, off, none⟩) := by
  simp only [Value.okWide, Try.underlying22] at h
  cases ao with
  | none => exact ⟨fun b o e => (by cases e), Or.inl rfl⟩
  | some a =>
    simp only [Cell.okWide, Cell.ok, Try.underlying22] at h
    obtain ⟨h1, h2⟩ := has_ltD h.2.2
    obtain ⟨b, o, s⟩ := a
    simp only at h2
    subst h2
    exact ⟨fun b' o' e => by cases e; exact h1, Or.inr ⟨b, o, rfl⟩⟩
end Go.Proofs.Ytneiomimjgfbpaa
namespace Go.Proofs.Ytneiomimjgfbpaa.wireDecodes
open Go.ChangeShapes Go.WideShapes Go.ChangeAt Go.RowKit Go.WideMaps Go.WideElems
set_option maxRecDepth 100000 in
set_option maxHeartbeats 1600000 in
theorem contract (H : Type) (enc : TypeId × Value → H) (W : World) (base : Nat) (args : Array Value) (ds gs : List (DataW H)) (before : List MemPlace)
    (hval : ∀ (j : Nat) t v, Try.f6.params[j]? = some t → args[j]? = some v → Value.okWide Try.prog W .any base t v)
    (hW : DataW.Whole enc Try.prog Try.f6.params.toList Rows.wireDecodesSpec.vars false W args.toList ds gs before)
    (hsz : (DataW.weightsEach Try.prog (Try.f6.params.toList ++ Rows.wireDecodesSpec.plain.varTypes Try.prog) (ds ++ gs)).all (· ≤ reachBytes) = true) :
    Calls Try.prog 6 args W fun e W' => ∃ v, e = .returned v ∧ Rows.wireDecodesSpec.post enc Try.prog Try.f6 false true false false W args v W' := by
  have hW' := hW
  obtain ⟨p, q, hA0, hV, rfl, hfz, hnd⟩ := hW
  have hA : DataW.TrodAll enc Try.prog W 0 (fun _ => true) true Try.f6.params.toList args.toList ds p := hA0
  rw [Try.params6] at hA hval
  obtain ⟨v0, vs0, d0, ds0, p0, q0, hargs, rfl, rfl, h0, r0⟩ := trodAll_cons hA
  obtain ⟨rfl, rfl, rfl⟩ := trodAll_nil r0
  obtain rfl : args = #[v0] := by cases args; simp_all
  obtain ⟨rfl, rfl⟩ := trodVars_none hV
  clear hA0 r0 hA
  have hlt0 : ∀ x ∈ p0, x.block < W.heap.size := fun x hx => hW'.lt x (by simp [hx])
  obtain ⟨bo, n, cap, bs, rfl, hlen, hrm, _, hbnil, hsrc, hs⟩ := open_bytes (hval 0 22 v0 rfl rfl) h0
  have hsm := short_bytes hsz (j := 0) (d := d0) (by rw [Try.params6]; rfl) rfl hrm hs
  have hbb := bytes_ltD (hval 0 22 _ rfl rfl)
  refine (dec_law bo n cap bs W hlen hsrc hbb.1 hsm hrm hbnil hbb.2).mono fun e W' ⟨he, hbl⟩ => ?_
  subst he
  exact ⟨_, rfl, _, _, _, [], _, [], hW', trodAll_cons_mk (shut_bool Try.underlying4 _) trodAll_mk0, trodAll_cons_mk (shut_bytes h0 hbl hlt0) trodAll_mk0, rfl, hbl.frame _, fun h => by cases h⟩

set_option maxRecDepth 100000 in
theorem lifted (os : Os) (started : os.Started) (H : Type) (enc : TypeId × Value → H) :
    ReturnsInHanded {} Try.checked os 6 .any (Rows.wireDecodesSpec.pre6 enc Try.prog Try.f6 Rows.wireDecodesRow.domain false) (Rows.wireDecodesSpec.post enc Try.prog Try.f6 false true false false) := by
  refine returnsInHanded_of_change_sized (C := Try.checked) (s := Rows.wireDecodesSpec) own started (by kernel_rfl) Try.func6
    (ChangeSpec.witness6 (enc := enc) (C := Try.checked) (s := Rows.wireDecodesSpec) false ⟨#[], #[.slice none 0 0], []⟩ 8 (by kernel_rfl) (by kernel_rfl) (by kernel_rfl) (by kernel_rfl)) ?_
  intro W base args ds gs before hval hW _ hsz _
  exact contract H enc W base args ds gs before hval hW hsz

theorem said : Rows.WireDecodesSaid :=
  OpenClaim.holds_of_wide 6 Try.f6 rfl rfl rfl rfl rfl rfl rfl ⟨rfl, rfl, rfl, rfl, rfl⟩ rfl rfl rfl rfl rfl (by kernel_rfl) Try.func6 (by kernel_rfl)
    (of_decide_eq_true (by kernel_rfl)) (by unfold Func.isWrapper; first | (rw [if_pos (by decide +kernel)]; kernel_rfl) | (rw [if_neg (by decide +kernel)]; exact ⟨rfl, rfl⟩))
    (fun os started H enc _ => lifted os started H enc)
end Go.Proofs.Ytneiomimjgfbpaa.wireDecodes

namespace Go.Proofs.Ytneiomimjgfbpaa
theorem wireDecodes_said : Rows.WireDecodesSaid := wireDecodes.said
end Go.Proofs.Ytneiomimjgfbpaa
