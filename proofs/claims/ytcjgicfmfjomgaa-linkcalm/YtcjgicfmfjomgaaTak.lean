import Derived.Test.YtcjgicfmfjomgaaHu1
namespace Go.Proofs.Ytcjgicfmfjomgaa
open Go.RowKit Go.PlainAid Go.MapKept
set_option linter.unusedVariables false
set_option linter.unusedSimpArgs false
theorem spot_none {W : World} {a : Addr} {v : Value} (h : W.cell? a = some v) : ∃ b off, a = ⟨b, off, none⟩ := by
  obtain ⟨b, off, sp⟩ := a
  cases sp with
  | none => exact ⟨b, off, rfl⟩
  | some s =>
    unfold World.cell? at h
    split at h <;> simp at h
theorem u8_ne {w : World} {lb cb mb : Nat} {uv : Value} {x : LV} (hB : Blk w lb (lbox x cb mb uv) 77) (huv : ∃ o n c, uv = .slice o n c) {p : Addr} {u : UInt8} (h : w.cell? p = some (B u)) : p.block ≠ lb := by
  intro e
  obtain ⟨b, off, rfl⟩ := spot_none h
  replace e : b = lb := e
  subst e
  obtain ⟨o, n, c, rfl⟩ := huv
  rw [hB.cell off] at h
  match off with
  | 0 => simp [lbox, B] at h
  | 1 => simp [lbox, B] at h
  | 2 => simp [lbox, B] at h
  | 3 => simp [lbox, B] at h
  | 4 => simp [lbox, B] at h
  | 5 => simp [lbox, B] at h
  | 6 => simp [lbox, B] at h
  | 7 => simp [lbox, B] at h
  | 8 => simp [lbox, B] at h
  | 9 => simp [lbox, B] at h
  | 10 => simp [lbox, B] at h
  | 11 => simp [lbox, B] at h
  | k + 12 => simp [lbox] at h
/-- Data that is read stays where the link's own block is written. -/
theorem By.lb {L lb cb mb : Nat} {uv v : Value} {x : LV} {s : List UInt8} {w w' : World} (h : By w v s) (hm : LM L lb cb mb uv x w) (hc : Chg (fun k => k = lb) w w') : By w' v s := by
  obtain ⟨uo, uc, huv, _⟩ := own_slice hm.u
  obtain ⟨ao, k, c, e1, e2, e3, e4⟩ := h
  refine ⟨ao, k, c, e1, e2, e3, fun ad e j u hu => ?_⟩
  have h1 := e4 ad e j u hu
  have hb : ∃ b : UInt8, u = B b := by
    obtain ⟨b, _, hb⟩ := List.mem_map.1 (List.mem_of_getElem? hu)
    exact ⟨b, hb.symm⟩
  obtain ⟨b, rfl⟩ := hb
  have hne := u8_ne hm.b ⟨_, _, _, huv⟩ h1
  exact (World.cell?_of_block (w := w) (a := ad.add j) (hc.block _ (World.block_lt_of_cell? w _ h1) hne)).trans h1
set_option maxRecDepth 100000 in
theorem ack_old {L lb cb mb : Nat} {uv : Value} {x : LV} (a : Int) (w : World) (h : LM L lb cb mb uv x w) (ha : a ≤ x.acked) :
    Calls Try.prog 37 #[.pointer (some ⟨lb, 0, none⟩), .int .i64 a] w fun e w' => e = .returned (.tuple #[]) ∧ w' = w := by
  have c5 : w.cell? ⟨lb, 5, none⟩ = some (.int .i64 x.acked) := h.b.cell 5
  clear h
  go_enter Try.func37, Try.ntmps37
  go_wp2_with fail
  refine bodyPost_ret (results_none rfl _ _ _) rfl ?_
  exact ⟨rfl, rfl⟩
/-- What a segment that came leaves: what waits, what is handed up. -/
structure TK (L lb cb mb : Nat) (uv : Value) (x : LV) (q : Int) (s : List UInt8) (w : World) (v : Value) (ds : List Dv) (x' : LV) (w' : World) : Prop where
  lm : LM L lb cb mb uv x' w'
  st : LStp lb cb mb uv uv x x' w w'
  r : w'.ownsRow w.heap.size 41 1 v ds.length (ds.map Dv.v)
  dt : ∀ d ∈ ds, w'.ownsRow L 5 1 d.v d.s.length (d.s.map B)
  pw : (ds ++ x'.all).Pairwise fun d e => ∀ g, d.v.ownBlock = some g → e.v.ownBlock ≠ some g
  eq : if q = 0 then ds = [] ∧ x' = x else ∃ x1, WaitTo { x with owed := true } q s x1 ∧ ds = (handed x1.early.length x1.next x1.early).1 ∧ x' = x1.at_ (handed x1.early.length x1.next x1.early).2.1 (handed x1.early.length x1.next x1.early).2.2
def TKP (L lb cb mb : Nat) (uv : Value) (x : LV) (q : Int) (s : List UInt8) (w : World) (e : Ending) (w' : World) : Prop := ∃ v ds x', e = .returned (.tuple #[v, .int .i64 0]) ∧ TK L lb cb mb uv x q s w v ds x' w'
set_option maxRecDepth 100000 in
set_option maxHeartbeats 3200000 in
theorem take_old {L lb cb mb : Nat} {uv v : Value} {x : LV} {s : List UInt8} (q a : Int) (w : World) (h : LM L lb cb mb uv x w) (hb : 0 ≤ x.acked ∧ x.acked ≤ 1099511627776) (hu : x.under.length ≤ 1000) (hn : 1 ≤ x.next ∧ x.next ≤ 1099511627777) (hw : x.win ≤ 16) (he : x.early.length ≤ 400) (hq : 0 ≤ q ∧ q ≤ 1099511627776) (ha : 0 ≤ a ∧ a ≤ x.acked) (hz : q = 0 → s.length = 0) (hd : By w v s) (hsl : s.length ≤ 4000) :
    Calls Try.prog 26 #[.pointer (some ⟨lb, 0, none⟩), .agg #[.int .i64 x.peer, .int .i64 x.me, .int .i64 q, .int .i64 a, v]] w (TKP L lb cb mb uv x q s w) := by
  obtain ⟨ao, k, c, hv, hk, hrest⟩ := id hd
  clear hrest
  subst hk
  subst hv
  obtain ⟨X, hX⟩ : ∃ X, X = w.alloc (.cells #[.int .i64 x.peer, .int .i64 x.me, .int .i64 q, .int .i64 a, .slice ao s.length c] 45) := ⟨_, rfl⟩
  obtain ⟨bx, hbx⟩ : ∃ bx, bx = w.heap.size := ⟨_, rfl⟩
  have hbX : Below w.heap.size w X := by rw [hX]; exact (Below.refl _ _).alloc (Nat.le_refl _) _
  have hBX : Blk X bx #[.int .i64 x.peer, .int .i64 x.me, .int .i64 q, .int .i64 a, .slice ao s.length c] 45 := by rw [hX, hbx]; exact heap_alloc_new w _
  have HM : Hid (LM L lb cb mb uv x X) := h.more hbX
  have HBX : Hid (Blk X bx #[.int .i64 x.peer, .int .i64 x.me, .int .i64 q, .int .i64 a, .slice ao s.length c] 45) := hBX
  have HbX : Hid (Below w.heap.size w X) := hbX
  have HD : Hid (By X (.slice ao s.length c) s) := hd.keep hbX
  have HNB : Hid (bx ≠ lb) := fun e => by
    have := h.b.lt
    omega
  have HFI : Hid _ := fits_yes q a ao s.length c X HM.out hb hu hq (by omega) hz hsl
  have b0 : X.cell? ⟨bx, 0, none⟩ = some (.int .i64 x.peer) := hBX.cell 0
  have b1 : X.cell? ⟨bx, 1, none⟩ = some (.int .i64 x.me) := hBX.cell 1
  have b2 : X.cell? ⟨bx, 2, none⟩ = some (.int .i64 q) := hBX.cell 2
  have b3 : X.cell? ⟨bx, 3, none⟩ = some (.int .i64 a) := hBX.cell 3
  have b4 : X.cell? ⟨bx, 4, none⟩ = some (.slice ao s.length c) := hBX.cell 4
  clear h hd hbX hBX hz
  go_enter Try.func26, Try.ntmps26
  go_upto_region 1 with fail
  rw [← hX, ← hbx]
  clear hX hbx
  go_wp2_with fail
  refine Calls.mono HFI.out ?_
  rintro e w1 ⟨rfl, hb1⟩
  have HM1 : Hid (LM L lb cb mb uv x w1) := HM.out.more hb1
  have HB1 : Hid (Below X.heap.size X w1) := hb1
  have HBX1 : Hid (Blk w1 bx #[.int .i64 x.peer, .int .i64 x.me, .int .i64 q, .int .i64 a, .slice ao s.length c] 45) := Blk.below HBX.out hb1 HBX.out.lt
  have HAK : Hid _ := ack_old a w1 HM1.out ha.2
  clear hb1 HFI b0 b1 b2 b3 b4 HM HBX
  have b3 : w1.cell? ⟨bx, 3, none⟩ = some (.int .i64 a) := HBX1.out.cell 3
  have b2 : w1.cell? ⟨bx, 2, none⟩ = some (.int .i64 q) := HBX1.out.cell 2
  go_wp2_with fail
  refine Calls.mono HAK.out ?_
  rintro e w2 ⟨rfl, hw2⟩
  replace hw2 := hw2.symm
  subst hw2
  clear HAK
  by_cases h0 : q = 0
  · have HQ0 : Hid (q = 0) := h0
    subst h0
    go_wp2_with fail
    go_ret2
    refine ⟨.slice none 0 0, [], x, rfl, HM1.out, LStp.refl (HbX.out.trans (HB1.out.mono HbX.out.size)), World.ownsRow_nil _ _ _ _, (fun d hd => by cases hd), HM1.out.dj, by simp⟩
  · have h0b : (q == 0) = false := by simpa using h0
    have HQ0 : Hid (¬ q = 0) := h0
    have hB2 : Blk (w1.setCell ⟨lb, 11, none⟩ (.bool true)) lb (lbox { x with owed := true } cb mb uv) 77 := HM1.out.b.set 11 _
    have hbx2 := HM1.out.box (setCell_chg w1 lb 11 (.bool true)) hB2 rfl rfl rfl rfl
    have c11 : w1.cell? ⟨lb, 11, none⟩ = some (.bool x.owed) := HM1.out.b.cell 11
    have f11 : w1.frozen? ⟨lb, 11, none⟩ = false := HM1.out.b.frozen 11
    obtain ⟨Y, hY⟩ : ∃ Y, Y = w1.setCell ⟨lb, 11, none⟩ (.bool true) := ⟨_, rfl⟩
    have hBXY : Blk Y bx #[.int .i64 x.peer, .int .i64 x.me, .int .i64 q, .int .i64 a, .slice ao s.length c] 45 := by rw [hY]; exact (setCell_chg w1 lb 11 (.bool true)).blk HBX1.out HNB.out
    rw [← hY] at hbx2
    have y2 : Y.cell? ⟨bx, 2, none⟩ = some (.int .i64 q) := hBXY.cell 2
    have y4 : Y.cell? ⟨bx, 4, none⟩ = some (.slice ao s.length c) := hBXY.cell 4
    have hDY : By Y (.slice ao s.length c) s := (HD.out.keep HB1.out).lb HM1.out (by rw [hY]; exact setCell_chg _ _ _ _)
    have HAW : Hid _ := await_any (x := { x with owed := true }) q Y hbx2.1 hn hw hDY (by omega)
    have HST : Hid (LStp lb cb mb uv uv x { x with owed := true } w Y) := (LStp.refl (HbX.out.trans (HB1.out.mono HbX.out.size))).trans hbx2.2
    have HEY : Hid (Y = w1.setCell ⟨lb, 11, none⟩ (.bool true)) := hY
    clear hB2 hbx2 hY hBXY hDY
    go_upto_region 7 with fail
    rw [← HEY.out]
    clear HEY c11 f11 b2 b3
    go_wp2_with fail
    refine Calls.mono HAW.out ?_
    rintro e w3 ⟨rfl, x3, hwt, hM3, hst3⟩
    have HWT : Hid (WaitTo { x with owed := true } q s x3) := hwt
    have HST3 : Hid (LStp lb cb mb uv uv x x3 w w3) := HST.out.trans hst3
    have hx3 : x3.next = x.next ∧ x3.early.length ≤ 500 := by
      unfold WaitTo at hwt
      split at hwt
      · obtain ⟨v', rfl⟩ := hwt
        exact ⟨rfl, by show (x.early ++ [(q, (⟨v', s⟩ : Dv))]).length ≤ 500; simp; omega⟩
      · rw [hwt]
        exact ⟨rfl, by show x.early.length ≤ 500; omega⟩
    have HHU : Hid _ := handUp_any w3 hM3 (by rw [hx3.1]; exact hn) hx3.2
    clear hwt hM3 hst3 hx3 HAW HST y2 y4
    go_wp2_with fail
    refine Calls.mono HHU.out ?_
    rintro e w4 ⟨v4, ds, n4, E4, rfl, hU, hh⟩
    have HF : Hid (TK L lb cb mb uv x q s w v4 ds (x3.at_ n4 E4) w4) := by
      have hsz := HST3.out.1.size
      refine ⟨hU.lm, ⟨HST3.out.1.trans hU.ch (fun j hj e => ?_), fun k hk => ?_⟩, ownsRow_mono hU.r hsz, hU.dt, hU.pw, ?_⟩
      · rcases HST3.out.2 j e with q | q
        · exact q
        · omega
      · refine HST3.out.2 k ?_
        rcases hk with q | q | q | q | ⟨d, hd, q⟩
        · exact .inl q
        · exact .inr (.inl q)
        · exact .inr (.inr (.inl q))
        · exact .inr (.inr (.inr (.inl q)))
        · exact .inr (.inr (.inr (.inr ⟨d, hU.pm.mem_iff.1 (List.mem_append.2 (Or.inr hd)), q⟩)))
      · rw [if_neg HQ0.out]
        exact ⟨x3, HWT.out, by rw [hh], by rw [hh]⟩
    clear hU hh HHU
    go_wp2_with fail
    go_ret2
    exact ⟨_, _, _, rfl, HF.out⟩
end Go.Proofs.Ytcjgicfmfjomgaa
