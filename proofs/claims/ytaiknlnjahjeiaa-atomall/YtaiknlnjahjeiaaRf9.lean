import Derived.Test.YtaiknlnjahjeiaaRf8
import Derived.Deep.Cut
namespace Go.Proofs.Ytaiknlnjahjeiaa
open Go.RowKit Go.PlainAid Go.MapKept
set_option linter.unusedVariables false
set_option linter.unusedSimpArgs false
def alR (a er fe va : Int) : Bool := !(er == 1) && (er == fe) && (a == va)
def AlPostR (B0 rb : Nat) (v : Value) (k A B fe va : Int) (n : List UInt8) (M : List RC) (w : World) (e : Ending) (w' : World) : Prop :=
  ∃ a er M' M2, RRes k A B va n M a er M' ∧ e = .returned (.bool (alR a er fe va)) ∧ M2 = (bif alR a er fe va then M' else M) ∧ RDone B0 rb v w M2 w' ∧ (∀ c ∈ M2, c.Rd B0 w') ∧ ∀ j, hasL M2 j → hasL M j ∨ w.heap.size ≤ j
set_option maxRecDepth 100000 in
set_option maxHeartbeats 3200000 in
theorem rallows_any {B0 K rb : Nat} {v : Value} {M : List RC} (e0 e1 e2 k A B fe va : Int) (n : List UInt8) (w : World) (h : RMap B0 rb v M w) (hB0 : B0 ≤ w.heap.size) (hA : RAll B0 K M w) (hK : K ≤ 90000) (hnl : n.length ≤ 140737488355328) :
    Calls Try.prog 37 #[.pointer (some ⟨rb, 0, none⟩), .agg #[.int .i64 e0, .int .i64 e1, .int .i64 e2, .int .i64 k, .string ⟨n.toArray⟩, .int .i64 A, .int .i64 B, .int .i64 fe, .int .i64 va]] w (AlPostR B0 rb v k A B fe va n M w) := by
  obtain ⟨ob, hob⟩ : ∃ b, b = w.heap.size := ⟨_, rfl⟩
  obtain ⟨X0, hX⟩ : ∃ X, X = w.alloc (.cells #[.int .i64 e0, .int .i64 e1, .int .i64 e2, .int .i64 k, .string ⟨n.toArray⟩, .int .i64 A, .int .i64 B, .int .i64 fe, .int .i64 va] 51) := ⟨_, rfl⟩
  have hbX : Below w.heap.size w X0 := by rw [hX]; exact (Below.refl _ _).alloc (Nat.le_refl _) _
  have hB : Blk X0 ob #[.int .i64 e0, .int .i64 e1, .int .i64 e2, .int .i64 k, .string ⟨n.toArray⟩, .int .i64 A, .int .i64 B, .int .i64 fe, .int .i64 va] 51 := by rw [hX, hob]; exact heap_alloc_new w _
  have HBO : Hid (Blk X0 ob #[.int .i64 e0, .int .i64 e1, .int .i64 e2, .int .i64 k, .string ⟨n.toArray⟩, .int .i64 A, .int .i64 B, .int .i64 fe, .int .i64 va] 51) := hB
  have HBX : Hid (Below w.heap.size w X0) := hbX
  have HMw : Hid (RMap B0 rb v M w) := h
  have HAw : Hid (RAll B0 K M w) := hA
  have HB0 : Hid (B0 ≤ w.heap.size) := hB0
  have HCP : Hid _ := rcopy_any X0 (h.more hbX) (hA.more hbX) (show K ≤ 100000 by omega)
  have HNL : Hid (n.length ≤ 140737488355328) := hnl
  have HK : Hid (K ≤ 90000) := hK
  clear h hA hbX hB hB0 hnl hK
  go_enter Try.func37, Try.ntmps37
  go_upto_region 1 with fail
  rw [← hX, ← hob]
  clear hX hob
  go_wp2_with fail
  refine Calls.mono HCP.out ?_
  rintro e9 X ⟨tb, tv, rfl, hT, htb, hbT⟩
  have HWX : Hid (Below w.heap.size w X) := HBX.out.trans (hbT.mono HBX.out.size)
  have hT0 : RMap B0 tb tv M X := ⟨hT.box, ownsRow_mono hT.row (Nat.le_trans HB0.out HBX.out.size)⟩
  have HTL : Hid (w.heap.size ≤ tb ∧ ∀ k, tv.ownBlock = some k → w.heap.size ≤ k) := ⟨Nat.le_trans HBX.out.size htb, fun k hk => Nat.le_trans HBX.out.size (ownsRow_lt hT.row hk).1⟩
  have HDO : Hid _ := rdo_any k A B va n X hT0 (Nat.le_trans HB0.out HWX.out.size) (HAw.out.more HWX.out) HK.out HNL.out
  have hBO := HBO.out.below hbT HBO.out.lt
  have o3 : X.cell? ⟨ob, 3, none⟩ = some (.int .i64 k) := hBO.cell 3
  have o4 : X.cell? ⟨ob, 4, none⟩ = some (.string ⟨n.toArray⟩) := hBO.cell 4
  have o5 : X.cell? ⟨ob, 5, none⟩ = some (.int .i64 A) := hBO.cell 5
  have o6 : X.cell? ⟨ob, 6, none⟩ = some (.int .i64 B) := hBO.cell 6
  have o8 : X.cell? ⟨ob, 8, none⟩ = some (.int .i64 va) := hBO.cell 8
  have HBOX : Hid (Blk X ob #[.int .i64 e0, .int .i64 e1, .int .i64 e2, .int .i64 k, .string ⟨n.toArray⟩, .int .i64 A, .int .i64 B, .int .i64 fe, .int .i64 va] 51) := hBO
  have HTX : Hid (RMap B0 tb tv M X) := hT0
  clear hT htb hbT hT0 hBO HCP
  go_wp2_with fail
  refine Calls.mono HDO.out ?_
  rintro e9 Y ⟨a, er, M', rfl, hres, hdn, hrd, hfs⟩
  obtain ⟨v2, hm2, hf2⟩ := hdn.map
  have HWY : Hid (Below w.heap.size w Y) := HWX.out.trans (hdn.chg.below HWX.out.size (fun k e => e.elim (fun e => by rw [e]; exact HTL.out.1) (fun e => HTL.out.2 k e)))
  have hkeep : ∀ b C T, Blk X b C T → T ≠ 90 → T ≠ 94 → Blk Y b C T := fun b C T hb h1 h2 => hdn.chg.blk hb (fun e => by
    rcases e with e | e
    · exact Blk.ne_t hb HTX.out.box h1 e
    · obtain ⟨cu, hcu⟩ := ownsRow_type HTX.out.row e
      exact Blk.ne_t hb (show Blk X b cu 94 from hcu) h2 rfl)
  have hBY := hkeep _ _ _ HBOX.out (by decide) (by decide)
  have HBY : Hid (Blk Y ob #[.int .i64 e0, .int .i64 e1, .int .i64 e2, .int .i64 k, .string ⟨n.toArray⟩, .int .i64 A, .int .i64 B, .int .i64 fe, .int .i64 va] 51) := hBY
  have y7 : Y.cell? ⟨ob, 7, none⟩ = some (.int .i64 fe) := hBY.cell 7
  have y8 : Y.cell? ⟨ob, 8, none⟩ = some (.int .i64 va) := hBY.cell 8
  have HRS : Hid (RRes k A B va n M a er M') := hres
  have HRDN : Hid (∀ c ∈ M', c.Rd B0 Y) := hrd
  have HFSN : Hid (∀ j, hasL M' j → hasL M j ∨ w.heap.size ≤ j) := fun j hj => (hfs j hj).imp id (fun e => Nat.le_trans HWX.out.size e)
  have HM2 : Hid (RMap B0 tb v2 M' Y) := hm2
  have HF2 : Hid (∀ k, v2.ownBlock = some k → w.heap.size ≤ k) := fun k hk => (hf2 k hk).elim (fun e => HTL.out.2 k e) (fun e => Nat.le_trans HWX.out.size e)
  clear hres hdn hrd hfs hm2 hf2 hkeep hBY HDO o3 o4 o5 o6 o8
  have HNO : Hid (alR a er fe va = false → AlPostR B0 rb v k A B fe va n M w (.returned (.bool false)) Y) := fun hb => ⟨a, er, M', M, HRS.out, by rw [hb], by rw [hb]; rfl, RDone.ofBelow HMw.out HWY.out, fun c hc => (HAw.out.rd c hc).more HWY.out, fun j hj => Or.inl hj⟩
  by_cases h1 : er = 1
  · have q1 : (er == 1) = true := by simpa using h1
    have HB : Hid (alR a er fe va = false) := show _ = _ from by unfold alR; rw [q1]; rfl
    clear h1
    go_wp2_with fail
    go_ret
    exact HNO.out HB.out
  · have q1 : (er == 1) = false := by simpa using h1
    by_cases h2 : er = fe
    · subst h2
      have q2 : (er == er) = true := by simp
      by_cases h3 : a = va
      · subst h3
        have q3 : (a == a) = true := by simp
        have HB : Hid (alR a er er a = true) := show _ = _ from by unfold alR; rw [q1, q2, q3]; rfl
        obtain ⟨vo, vc, hvv, _⟩ := own_slice HM2.out.row
        obtain ⟨mn, hmn⟩ : ∃ x, x = M'.length := ⟨_, rfl⟩
        rw [← hmn] at hvv
        subst hvv
        clear hmn
        have hRY := HMw.out.box.below HWY.out HMw.out.box.lt
        obtain ⟨ro, rc, hv0, _⟩ := own_slice HMw.out.row
        have y0 : Y.cell? ⟨rb, 0, none⟩ = some v := hRY.cell 0
        have f0 : Y.frozen? ⟨rb, 0, none⟩ = false := hRY.frozen 0
        have t0 : Y.cell? ⟨tb, 0, none⟩ = some (.slice vo mn vc) := HM2.out.box.cell 0
        obtain ⟨Y2, hY2⟩ : ∃ Y2, Y2 = Y.setCell ⟨rb, 0, none⟩ (.slice vo mn vc) := ⟨_, rfl⟩
        have hc2 : Chg (fun k => k = rb) Y Y2 := by rw [hY2]; exact setCell_chg _ _ _ _
        have hne : ∀ g C T, Blk Y g C T → T ≠ 90 → Y2.heap[g]? = Y.heap[g]? := fun g C T hb hT => hc2.block g hb.lt (fun e => Blk.ne_t hb hRY hT e)
        have hrow2 : Y2.ownsRow B0 94 5 (.slice vo mn vc) M'.length (flatR M') := ownsRow_same HM2.out.row (fun g hg => by obtain ⟨cu, hcu⟩ := ownsRow_type HM2.out.row hg; exact hne g cu 94 hcu (by decide))
        have HMF : Hid (RMap B0 rb (.slice vo mn vc) M' Y2) := ⟨by rw [hY2]; exact hRY.set 0 _, hrow2⟩
        have HRD2 : Hid (∀ c ∈ M', c.Rd B0 Y2) := fun c hc => by
          have hr := HRDN.out c hc
          exact ⟨ownsRow_same hr.h (fun g hg => by obtain ⟨cu, hcu⟩ := ownsRow_type hr.h hg; exact hne g cu 125 hcu (by decide)), ownsRow_same hr.u (fun g hg => by obtain ⟨cu, hcu⟩ := ownsRow_type hr.u hg; exact hne g cu 3 hcu (by decide))⟩
        have HCH : Hid (Chg (fun k => k = rb ∨ v.ownBlock = some k) w Y2) := (Chg.ofBelow _ HWY.out).trans hc2 (fun j _ e => Or.inl e)
        have HYS : Hid (AlPostR B0 rb v k A B er a n M w (.returned (.bool true)) Y2) := ⟨a, er, M', M', HRS.out, by rw [HB.out], by rw [HB.out]; rfl, ⟨⟨_, HMF.out, fun k hk => Or.inr (HF2.out k hk)⟩, HCH.out⟩, HRD2.out, HFSN.out⟩
        clear h1 hRY hv0 hc2 hne hrow2
        go_wp2_with fail
        first | rw [← hY2] | skip
        go_ret
        exact HYS.out
      · have q3 : (a == va) = false := by simpa using h3
        have HB : Hid (alR a er er va = false) := show _ = _ from by unfold alR; rw [q3]; simp
        go_wp2_with fail
        go_ret
        exact HNO.out HB.out
    · have q2 : (er == fe) = false := by simpa using h2
      have HB : Hid (alR a er fe va = false) := show _ = _ from by unfold alR; rw [q2]; simp
      go_wp2_with fail
      go_ret
      exact HNO.out HB.out
end Go.Proofs.Ytaiknlnjahjeiaa
