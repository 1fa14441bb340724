import Derived.Test.YtjpdcahodmomgaaJn26
import Derived.Test.YtjpdcahodmomgaaJn32
import Derived.Test.YtjpdcahodmomgaaJn16
import Derived.Deep.Cut
namespace Go.Proofs.Ytjpdcahodmomgaa
open Go.RowKit Go.PlainAid
set_option linter.unusedVariables false
set_option linter.unusedSimpArgs false
set_option maxRecDepth 100000
set_option maxHeartbeats 3200000
/-- The desk's cells. -/
def deskC (p : Nat) (jv iv : Value) (on : Bool) (left torn : Int) (hv : Value) (next : Nat) (dead : Bool) (sb : Nat) : Array Value := #[.pointer (some ⟨p, 0, none⟩), jv, iv, .bool on, .int .i64 left, .int .i64 torn, hv, .int .i64 (next : Int), .bool dead, .pointer (some ⟨sb, 0, none⟩)]
def imE (L : Nat) (iv : Value) (x : DV) : Ent L := rowE L 5 1 iv (x.n * 512) ((imgL x).map B)
theorem im_lit {L : Nat} {iv : Value} {x : DV} {w : World} (h : w.ownsRow L 5 1 iv (x.n * 512) ((imgL x).map B)) (hn : 1 ≤ x.n) : ∃ g c, iv = .slice (some ⟨g, 0, none⟩) (x.n * 512) c ∧ x.n * 512 ≤ c ∧ By w (.slice (some ⟨g, 0, none⟩) (x.n * 512) c) (imgL x) := by
  obtain ⟨ao, c, e, hc⟩ := own_slice h
  rcases id h.2 with ⟨e2, e3⟩ | ⟨g, c2, cur, e2, _⟩
  · omega
  · rw [e2] at e
    cases e
    refine ⟨g, _, e2, hc, ?_⟩
    rw [e2] at h
    have hl : (imgL x).length = x.n * 512 := by rw [imgL_len]; omega
    have := own_by (L := L) (w := w) (v := .slice (some ⟨g, 0, none⟩) (x.n * 512) _) (s := imgL x) (by rw [hl]; exact h)
    exact this
theorem opens_any {L kb p s sb : Nat} {x : DV} {jv iv hv0 : Value} {left torn : Int} {next0 : Nat} {dead0 : Bool} {R : List (Ent L)} (w : World) (h : Held (boxE L kb (deskC p jv iv true left torn hv0 next0 dead0 sb) 64 :: imE L iv x :: dmE L p s x :: R) w) (ho : x.off = false) (hn : 1 ≤ x.n) (hxn : x.n ≤ 1000) :
    Calls Try.prog 30 #[.pointer (some ⟨kb, 0, none⟩)] w fun e w' => e = .returned (.bool true) ∧ ∃ jb y k hv hs, Full x.b x.n k ∧ JIs y p x k ∧ hs.map Prod.snd = (itR x.b k).1 ∧ (∃ ao c, hv = Value.slice ao hs.length c) ∧ hs.length = k ∧ Held (boxE L kb (deskC p (.pointer (some ⟨jb, 0, none⟩)) iv true left torn hv (itR x.b k).2 false sb) 64 :: (haveE L hv hs ++ (imE L iv x :: (y.es L jb ++ (dmE L p s x :: R))))) w' ∧ Below L w w' := by
  have hL : L ≤ w.heap.size := h.lowL (k := kb) rfl
  have k0 : w.cell? ⟨kb, 0, none⟩ = some (.pointer (some ⟨p, 0, none⟩)) := h.boxB.cell 0
  have HO : Hid (Calls Try.prog 14 #[.pointer (some ⟨p, 0, none⟩)] w fun e w' => ∃ jb y k, e = .returned (.tuple #[.pointer (some ⟨jb, 0, none⟩), .int .i64 0]) ∧ Full x.b x.n k ∧ JIs y p x k ∧ Held (boxE L kb (deskC p jv iv true left torn hv0 next0 dead0 sb) 64 :: imE L iv x :: (y.es L jb ++ (dmE L p s x :: R))) w' ∧ Below L w w') := by
    have h1 : Held (dmE L p s x :: boxE L kb (deskC p jv iv true left torn hv0 next0 dead0 sb) 64 :: imE L iv x :: R) w := h.perm (((List.Perm.swap ..).cons _).trans (List.Perm.swap ..))
    refine (open_any w h1 ho hxn).mono ?_
    rintro e w' ⟨jb, y, k, e1, e2, e3, e4, e5⟩
    refine ⟨jb, y, k, e1, e2, e3, e4.perm ?_, e5⟩
    have e6 : (y.es L jb ++ (dmE L p s x :: boxE L kb (deskC p jv iv true left torn hv0 next0 dead0 sb) 64 :: imE L iv x :: R)).Perm ((boxE L kb (deskC p jv iv true left torn hv0 next0 dead0 sb) 64 :: imE L iv x :: []) ++ ((y.es L jb ++ [dmE L p s x]) ++ R)) := by
      have e7 := List.Perm.append_right R (List.perm_append_comm (l₁ := y.es L jb ++ [dmE L p s x]) (l₂ := [boxE L kb (deskC p jv iv true left torn hv0 next0 dead0 sb) 64, imE L iv x]))
      simpa [List.append_assoc] using e7
    simpa [List.append_assoc] using e6
  have HX : Hid (1 ≤ x.n ∧ x.n ≤ 1000 ∧ L ≤ w.heap.size) := ⟨hn, hxn, hL⟩
  clear h ho hn hxn hL
  go_enter Try.func30, Try.ntmps30
  go_wp2_with fail
  refine Calls.mono HO.out ?_
  rintro e w1 ⟨jb, y, k, rfl, hF, hJ, h1, hb1⟩
  clear HO k0
  have c3 : w1.cell? ⟨kb, 3, none⟩ = some (.bool true) := h1.boxB.cell 3
  have c1 : w1.cell? ⟨kb, 1, none⟩ = some jv := h1.boxB.cell 1
  have f1 : w1.frozen? ⟨kb, 1, none⟩ = false := h1.boxB.frozen 1
  have h2 := h1.boxSet 1 (.pointer (some ⟨jb, 0, none⟩))
  have hb2 : Below L w (w1.setCell ⟨kb, 1, none⟩ (.pointer (some ⟨jb, 0, none⟩))) := hb1.trans ((setCell_chg _ _ _ _).below (h1.lowL (k := kb) rfl) (fun j e => by rw [e]; exact (h1.all _ (List.mem_cons_self ..)).2))
  obtain ⟨w2, hw2⟩ : ∃ w2, w2 = w1.setCell ⟨kb, 1, none⟩ (.pointer (some ⟨jb, 0, none⟩)) := ⟨_, rfl⟩
  rw [← hw2] at h2 hb2
  have h2' : Held (boxE L kb (deskC p (.pointer (some ⟨jb, 0, none⟩)) iv true left torn hv0 next0 dead0 sb) 64 :: imE L iv x :: (y.es L jb ++ (dmE L p s x :: R))) w2 := h2
  have hrow : w2.ownsRow L 5 1 iv (x.n * 512) ((imgL x).map B) := h2'.all (imE L iv x) (by simp)
  obtain ⟨ig, ic, hiv, hic, hby⟩ := im_lit hrow HX.out.1
  have c2 : w2.cell? ⟨kb, 2, none⟩ = some (.slice (some ⟨ig, 0, none⟩) (x.n * 512) ic) := by rw [← hiv]; exact h2'.boxB.cell 2
  have HRD : Hid _ := rread_any (L := L) (x := x) (g := ig) (c := ic) (R := boxE L kb (deskC p (.pointer (some ⟨jb, 0, none⟩)) iv true left torn hv0 next0 dead0 sb) 64 :: imE L iv x :: (y.es L jb ++ (dmE L p s x :: R))) w2 h2' (Nat.le_trans HX.out.2.2 hb2.size) (fun W _ hW => by
    have h9 : W.ownsRow L 5 1 iv (x.n * 512) ((imgL x).map B) := hW.all (imE L iv x) (by simp)
    obtain ⟨g9, c9, e9, _, b9⟩ := im_lit h9 HX.out.1
    rw [hiv] at e9
    cases e9
    exact b9) hic HX.out.2.1
  have HH : Hid (Full x.b x.n k ∧ JIs y p x k ∧ Below L w w2) := ⟨hF, hJ, hb2⟩
  clear hF hJ h1 hb1 h2 h2' hb2 hrow hiv hic hby
  go_upto_region 7 with fail
  rw [← hw2]
  clear hw2 c1 f1 c3
  go_wp2_with fail
  refine Calls.mono HRD.out ?_
  rintro e w3 ⟨k', hv, rfl, hF', ho', hc', hs, hhv, hhl, hhm, h3, hb3⟩
  clear HRD c2
  obtain rfl : k' = k := hF'.one HH.out.1
  subst hhv
  have h4 : Held (boxE L kb (deskC p (.pointer (some ⟨jb, 0, none⟩)) iv true left torn hv0 next0 dead0 sb) 64 :: (haveE L (.slice ho' k' hc') hs ++ (imE L iv x :: (y.es L jb ++ (dmE L p s x :: R))))) w3 := h3.perm List.perm_middle
  have d6 : w3.cell? ⟨kb, 6, none⟩ = some hv0 := h4.boxB.cell 6
  have g6 : w3.frozen? ⟨kb, 6, none⟩ = false := h4.boxB.frozen 6
  have d7 : w3.cell? ⟨kb, 7, none⟩ = some (.int .i64 (next0 : Int)) := h4.boxB.cell 7
  have g7 : w3.frozen? ⟨kb, 7, none⟩ = false := h4.boxB.frozen 7
  have d8 : w3.cell? ⟨kb, 8, none⟩ = some (.bool dead0) := h4.boxB.cell 8
  have g8 : w3.frozen? ⟨kb, 8, none⟩ = false := h4.boxB.frozen 8
  have h5 := ((h4.boxSet 6 (.slice ho' k' hc')).boxSet 7 (.int .i64 ((itR x.b k').2 : Int))).boxSet 8 (.bool false)
  have HN : Hid (Held (boxE L kb (deskC p (.pointer (some ⟨jb, 0, none⟩)) iv true left torn (.slice ho' k' hc') (itR x.b k').2 false sb) 64 :: (haveE L (.slice ho' k' hc') hs ++ (imE L iv x :: (y.es L jb ++ (dmE L p s x :: R))))) (((w3.setCell ⟨kb, 6, none⟩ (.slice ho' k' hc')).setCell ⟨kb, 7, none⟩ (.int .i64 ((itR x.b k').2 : Int))).setCell ⟨kb, 8, none⟩ (.bool false)) ∧ Below L w (((w3.setCell ⟨kb, 6, none⟩ (.slice ho' k' hc')).setCell ⟨kb, 7, none⟩ (.int .i64 ((itR x.b k').2 : Int))).setCell ⟨kb, 8, none⟩ (.bool false)) ∧ hs.map Prod.snd = (itR x.b k').1 ∧ hs.length = k') := ⟨h5, (HH.out.2.2.trans hb3).trans (((((Chg.refl _ w3).trans (setCell_chg _ _ _ _) (fun _ _ e => e)).trans (setCell_chg _ _ _ _) (fun _ _ e => e)).trans (setCell_chg _ _ _ _) (fun _ _ e => e)).below (h4.lowL (k := kb) rfl) (fun j e => by rw [e]; exact (h4.all _ (List.mem_cons_self ..)).2)), hhm, hhl⟩
  clear h3 hb3 h4 h5 hF' hhm hhl
  obtain ⟨nx, hnx⟩ : ∃ nx, nx = (itR x.b k').2 := ⟨_, rfl⟩
  have HNX : Hid (nx = (itR x.b k').2) := hnx
  rw [← hnx] at HN ⊢
  clear hnx
  go_wp2_with fail
  go_ret
  refine ⟨rfl, jb, y, k', _, hs, HH.out.1, HH.out.2.1, HN.out.2.2.1, ⟨ho', hc', by rw [HN.out.2.2.2]⟩, HN.out.2.2.2, ?_, ?_⟩
  · rw [← HNX.out]; exact HN.out.1
  · exact HN.out.2.1
end Go.Proofs.Ytjpdcahodmomgaa
