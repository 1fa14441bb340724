import Derived.Test.YtjojhhkbebddmaaE8
namespace Go.Proofs.Ytjojhhkbebddmaa
open Go.RowKit Go.PlainAid
set_option linter.unusedVariables false
set_option linter.unusedSimpArgs false
def lookA (x : EV) (l r h : Int) : List Ac := if hasB x l r h = true then [⟨4, x.me, liveE x x.me, e0⟩] else []
theorem ebel (mb cb : Nat) {w w' : World} (hb : Below w.heap.size w w') : Chg (mown mb cb) w w' := Chg.ofBelow _ hb
set_option maxRecDepth 100000 in
set_option maxHeartbeats 6400000 in
theorem look_any {L mb cb : Nat} {x : EV} (l r h : Int) (w : World) (hM : MM L mb cb x [] w) (hx : x.Nm) : Calls Try.prog 18 #[.pointer (some ⟨mb, 0, none⟩), .int .i64 l, .int .i64 r, .int .i64 h] w fun e w' => ∃ v, e = .returned v ∧ w'.ownsRow w.heap.size 56 6 v (lookA x l r h).length (flatA (lookA x l r h)) ∧ MM L mb cb x [] w' ∧ Chg (mown mb cb) w w' := by
  have HA : Hid _ := hasAll_any l r h w hM hx
  have HM : Hid _ := hM
  have hm := hM.b.lt
  have hme : x.me < 16 := by have := hx.me; have := hx.n; omega
  obtain ⟨er, ek, hE⟩ : ∃ er ek, liveE x x.me = ⟨er, ek⟩ := ⟨_, _, rfl⟩
  have HO : Hid (∀ W, Below w.heap.size w W → Calls Try.prog 22 #[.pointer (some ⟨mb, 0, none⟩)] W fun e w' => e = .returned (epV ⟨er, ek⟩) ∧ Below W.heap.size W w') := fun W hW => by rw [← hE]; exact own_any W (hM.more hW) hme
  unfold lookA
  rw [hE]
  clear hM hE
  unfold epV at *
  cases hb : hasB x l r h
  · rw [hb] at HA
    rw [if_neg (by simp)]
    clear hb
    go_enter Try.func18, Try.ntmps18
    go_wp2_with (first
      | (go_at_call 31; refine Calls.mono HA.out ?_; rintro e w1 ⟨rfl, hb1⟩)
      | (go_at_call 33; refine Calls.mono (asked_any _ (HM.out.more hb1) (by simp)) ?_; rintro e w6 ⟨v6, rfl, ho6, hm6, hc6⟩)
      | fail)
    go_ret
    exact ⟨v6, rfl, ownsRow_mono ho6 hb1.size, hm6, (ebel mb cb hb1).trans hc6 (fun j _ e => e)⟩
  · rw [hb] at HA
    rw [if_pos rfl]
    clear hb
    go_enter Try.func18, Try.ntmps18
    go_upto_region 2 with (first
      | (go_at_call 31; refine Calls.mono HA.out ?_; rintro e w1 ⟨rfl, hb1⟩)
      | fail)
    have hbd : Below w.heap.size w w1.drew := hb1.drew
    have HMD : Hid _ := HM.out.more hbd
    have c0 : w1.cell? ⟨mb, 0, none⟩ = some (.int .i64 (x.me : Int)) := (HM.out.more hb1).c0
    have c0d : w1.drew.cell? ⟨mb, 0, none⟩ = some (.int .i64 (x.me : Int)) := HMD.out.c0
    go_region_with (first
      | (go_at_call 22; refine Calls.mono (HO.out _ hbd) ?_; rintro e w2 ⟨rfl, hb2⟩; have hbb := bgo hbd hb2 (Nat.le_refl _); have c02 : w2.cell? ⟨mb, 0, none⟩ = some (.int .i64 (x.me : Int)) := (HM.out.more hbb).c0)
      | (go_at_call 32; refine Calls.mono (ask_any (⟨4, x.me, ⟨er, ek⟩, e0⟩ : Ac) _ (HM.out.more hbb) (by simp)) ?_; rintro e w5 ⟨rfl, hm5, hc5⟩))
    all_goals
      go_wp2_with (first
        | (go_at_call 33; refine Calls.mono (asked_any _ hm5 (by simp)) ?_; rintro e w6 ⟨v6, rfl, ho6, hm6, hc6⟩)
        | fail)
    all_goals
      go_ret
      have hcc : Chg (mown mb cb) w w5 := (ebel mb cb hbb).trans hc5 (fun j _ e => e)
      exact ⟨v6, rfl, ownsRow_mono ho6 hcc.size, hm6, hcc.trans hc6 (fun j _ e => e)⟩
def finX (x : EV) : EV := turnX (endX x) (tgtE x x.n)
def finA (x : EV) : List Ac := turnA (endX x) (tgtE x x.n)
theorem EV.Nm.endX {x : EV} (h : x.Nm) : (endX x).Nm := ⟨h.n, h.me, fun j => ⟨by show (0 : Int) ≤ 0; omega, by show (0 : Int) ≤ _; omega⟩⟩
set_option maxRecDepth 100000 in
set_option maxHeartbeats 6400000 in
theorem finish_any {L mb cb : Nat} {x : EV} (w : World) (hM : MM L mb cb x [] w) (hx : x.Nm) : Calls Try.prog 44 #[.pointer (some ⟨mb, 0, none⟩)] w fun e w' => ∃ v, e = .returned v ∧ w'.ownsRow w.heap.size 56 6 v (finA x).length (flatA (finA x)) ∧ MM L mb cb (finX x) [] w' ∧ Chg (mown mb cb) w w' := by
  have hme : x.me < 16 := by have := hx.me; have := hx.n; omega
  have hm := hM.b.lt
  have hn2 := hx.n.2
  obtain ⟨tr, tk, hT⟩ : ∃ tr tk, tgtE x x.n = ⟨tr, tk⟩ := ⟨_, _, rfl⟩
  have HT : Hid (Calls Try.prog 35 #[.pointer (some ⟨mb, 0, none⟩)] w fun e w' => e = .returned (epV ⟨tr, tk⟩) ∧ Below w.heap.size w w') := show Calls Try.prog 35 #[.pointer (some ⟨mb, 0, none⟩)] w fun e w' => e = .returned (epV ⟨tr, tk⟩) ∧ Below w.heap.size w w' from by rw [← hT]; exact target_any w hM hn2
  have HM : Hid _ := hM
  have HX : Hid _ := hx.endX
  unfold finA finX
  rw [hT]
  clear hM hT hx hn2
  unfold epV at *
  go_enter Try.func44, Try.ntmps44
  go_wp2_with (first
    | (go_at_call 35; refine Calls.mono HT.out ?_; rintro e w1 ⟨rfl, hb1⟩; have hb2 : Below w.heap.size w (w1.alloc (.cells #[.int .i64 tr, .int .i64 tk] 49)) := bal hb1 (Nat.le_refl _) _; have hbx : Blk (w1.alloc (.cells #[.int .i64 tr, .int .i64 tk] 49)) w1.heap.size #[.int .i64 tr, .int .i64 tk] 49 := heap_alloc_new w1 _)
    | (go_at_call 65; refine Calls.mono (endOwn_any _ (HM.out.more hb2) hme) ?_; rintro e w4 ⟨rfl, hm4, hc4⟩; have hby := hc4.blk hbx (by have := hb1.size; omega); have g0 := hby.cell 0; have g1 := hby.cell 1)
    | (go_at_call 63; refine Calls.mono (turn_any (⟨tr, tk⟩ : Ep) _ hm4 HX.out) ?_; rintro e w6 ⟨v6, rfl, ho6, hm6, hc6⟩)
    | fail)
  go_ret
  have hcc : Chg (mown mb cb) w w4 := (ebel mb cb hb2).trans hc4 (fun j _ e => .inl e)
  exact ⟨v6, rfl, ownsRow_mono ho6 hcc.size, hm6, hcc.trans hc6 (fun j _ e => e)⟩
end Go.Proofs.Ytjojhhkbebddmaa
