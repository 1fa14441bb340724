import Derived.Test.YtcjgicfmfjomgaaOu0
import Derived.Deep.Cut
import Derived.BigQuiet
namespace Go.Proofs.Ytcjgicfmfjomgaa
open Go.RowKit Go.PlainAid Go.MapKept
set_option linter.unusedVariables false
set_option linter.unusedSimpArgs false
theorem tell_len (me peer ack : Int) : ∀ (q : Int) (ss : List (List UInt8)), (tell me peer ack q ss).length = ss.length
  | _, [] => rfl
  | q, a :: t => by simp [tell, tell_len me peer ack (q + 1) t]
set_option maxRecDepth 100000 in
set_option maxHeartbeats 6400000 in
theorem out_any {L lb cb mb : Nat} {uv : Value} {x : LV} (w : World) (h : LM L lb cb mb uv x w) (hn : 1 ≤ x.next ∧ x.next ≤ 1099511627777) (hb : 0 ≤ x.acked ∧ x.acked ≤ 1099511627776) (hu : x.under.length ≤ 500) (hbx_ : x.box.length ≤ 500) (hds : ∀ d ∈ x.all, d.s.length ≤ 1000000) :
    Calls Try.prog 13 #[.pointer (some ⟨lb, 0, none⟩)] w fun e w' => ∃ v uv' l, e = .returned v ∧ l.map Sgm.pr = outTells x ∧ SL w.heap.size v l w' ∧ LM L lb cb mb uv' (x.calm.moved x.box.length) w' ∧ LStp lb cb mb uv uv' x (x.calm.moved x.box.length) w w' ∧ ∀ k, slown v l k → ¬ lown lb cb mb uv' (x.calm.moved x.box.length) k := by
  have c11 : w.cell? ⟨lb, 11, none⟩ = some (.bool x.owed) := h.b.cell 11
  have HM : Hid _ := h
  have HDS : Hid (∀ d ∈ x.all, d.s.length ≤ 1000000) := hds
  obtain ⟨l1, hl1⟩ : ∃ l1 : List (Int × Int × Int × Int × List UInt8), l1 = if x.owed = true then [(x.me, x.peer, 0, x.next - 1, [])] else [] := ⟨_, rfl⟩
  have HL1 : Hid (l1 = if x.owed = true then [(x.me, x.peer, 0, x.next - 1, [])] else []) := hl1
  obtain ⟨l2, hl2⟩ : ∃ l2 : List (Int × Int × Int × Int × List UInt8), l2 = if x.due = true then tell x.me x.peer (x.next - 1) (x.acked + 1) (x.under.map Dv.s) else [] := ⟨_, rfl⟩
  have HL2 : Hid (l2 = if x.due = true then tell x.me x.peer (x.next - 1) (x.acked + 1) (x.under.map Dv.s) else []) := hl2
  clear h hds hl1 hl2
  go_enter Try.func13, Try.ntmps13
  go_upto_if 7 with fail
  go_cut [3] from 4 (fun s3 wc => ∃ vo l, vo = s3 ∧ l.map Sgm.pr = l1 ∧ SL w.heap.size vo l wc ∧ Below w.heap.size w wc)
  case first =>
    cases ho : x.owed with
    | true =>
      have HO : Hid (x.owed = true) := ho
      have HSG : Hid _ := segment_any (s := []) (v := .slice none 0 0) 0 w HM.out hn ⟨none, 0, 0, rfl, rfl, (fun _ => ⟨rfl, rfl⟩), (fun ad e => by cases e)⟩ (by simp)
      clear ho c11
      go_wp2_with fail
      refine Calls.mono HSG.out ?_
      rintro e w2 ⟨v2, rfl, hr2, hb2⟩
      obtain ⟨v5, w5, hr5, hS5, hg5⟩ := (SL.nil w.heap.size w2).app hb2.size (by simp) ⟨x.me, x.peer, 0, x.next - 1, ⟨v2, []⟩⟩ hr2 (fun e he => by cases he)
      have HHR : Hid _ := hr5
      have HR : Hid ((([] : List Sgm) ++ [(⟨x.me, x.peer, 0, x.next - 1, ⟨v2, []⟩⟩ : Sgm)]).map Sgm.pr = l1 ∧ SL w.heap.size v5 ([] ++ [(⟨x.me, x.peer, 0, x.next - 1, ⟨v2, []⟩⟩ : Sgm)]) w5 ∧ Below w.heap.size w w5) := ⟨by rw [HL1.out, if_pos HO.out]; rfl, hS5, hb2.trans (hg5.below (fun q hq => by cases hq) hb2.size)⟩
      obtain ⟨o2, c2, hv2, _⟩ := own_slice hr2
      subst hv2
      clear hr2 hb2 hr5 hS5 hg5 HSG
      unfold segA
      go_wp2_with (at_builtin; refine wpList_runs rfl _ _ 33 rfl rfl rfl HHR.out ?_)
      go_meet
      case rel => exact ⟨_, _, rfl, HR.out⟩
    | false =>
      have HO : Hid (x.owed = false) := ho
      clear ho c11
      go_wp2_with fail
      go_meet
      case rel => exact ⟨_, [], rfl, by rw [HL1.out, if_neg (by rw [HO.out]; decide)]; rfl, SL.nil _ _, Below.refl _ _⟩
  case rest =>
  obtain ⟨vo, lo, rfl, hpo, hSo, hbo⟩ := hcut
  have c7 : wc.cell? ⟨lb, 7, none⟩ = some (.bool x.due) := (HM.out.more hbo).b.cell 7
  have hlo1 : lo.length ≤ 1 := by
    have := congrArg List.length hpo
    rw [List.length_map, HL1.out] at this
    rw [this]
    split <;> simp
  have HPO : Hid (lo.map Sgm.pr = l1) := hpo
  have HSO : Hid (SL w.heap.size vo lo wc) := hSo
  have HBO : Hid (Below w.heap.size w wc) := hbo
  obtain ⟨oo, oc, hvo, _⟩ := own_slice hSo.r
  obtain ⟨on, hon⟩ : ∃ on, on = lo.length := ⟨_, rfl⟩
  rw [← hon] at hvo
  clear hpo hSo hbo c11 hon
  subst hvo
  go_upto_if 16 with fail
  go_cut [3] from 4 (fun s3 wd => ∃ vo l, vo = s3 ∧ l.map Sgm.pr = l1 ++ l2 ∧ SL w.heap.size vo l wd ∧ Below w.heap.size w wd ∧ l.length ≤ 501)
  case first =>
    cases ho : x.due with
    | true =>
      have HO : Hid (x.due = true) := ho
      have HUN : Hid _ := under_any wc (HM.out.more HBO.out) hn hb (by omega) (fun d hd => HDS.out d (by unfold LV.all; simp [hd]))
      clear ho c7
      go_wp2_with fail
      refine Calls.mono HUN.out ?_
      rintro e w2 ⟨v2, lu, rfl, hpu, hSu, hb2⟩
      have hlu : lu.length = x.under.length := by
        have := congrArg List.length hpu
        rw [List.length_map, tell_len, List.length_map] at this
        exact this
      have hbw := HBO.out.size
      have hbw2 := hb2.size
      obtain ⟨v5, w5, hr5, hS5, hg5⟩ := (HSO.out.more hb2).appAll hSu hbw (by omega) (fun k hk => (HSO.out.lt hk).2) (by omega)
      have HHR : Hid _ := hr5
      have HR : Hid ((lo ++ lu).map Sgm.pr = l1 ++ l2 ∧ SL w.heap.size v5 (lo ++ lu) w5 ∧ Below w.heap.size w w5 ∧ (lo ++ lu).length ≤ 501) := ⟨by rw [List.map_append, HPO.out, hpu, HL2.out, if_pos HO.out], hS5, (HBO.out.trans (hb2.mono hbw)).trans (hg5.below (fun q hq => (HSO.out.lt (.inl hq)).1) (by omega)), by rw [List.length_append]; omega⟩
      obtain ⟨o2, c2, hv2, _⟩ := own_slice hSu.r
      obtain ⟨n2, hn2⟩ : ∃ n2, n2 = lu.length := ⟨_, rfl⟩
      rw [← hn2] at hv2
      clear hpu hSu hb2 hlu hr5 hS5 hg5 HUN hn2 hbw hbw2
      subst hv2
      go_wp2_with (at_builtin; refine wpList_runs rfl _ _ 33 rfl rfl rfl HHR.out ?_)
      go_meet
      case rel => exact ⟨_, _, rfl, HR.out⟩
    | false =>
      have HO : Hid (x.due = false) := ho
      clear ho c7
      go_wp2_with fail
      go_meet
      case rel => exact ⟨_, lo, rfl, by rw [HL2.out, if_neg (by rw [HO.out]; decide), List.append_nil]; exact HPO.out, HSO.out, HBO.out, by omega⟩
  case rest =>
  clear HPO HSO HBO c7 hlo1
  obtain ⟨vd, ld, rfl, hpd, hSd, hbd, hld⟩ := hcut
  have HPD : Hid (ld.map Sgm.pr = l1 ++ l2) := hpd
  have HSD : Hid (SL w.heap.size vd ld wc) := hSd
  have hMd := HM.out.more hbd
  have HMD : Hid (LM L lb cb mb uv x wc) := hMd
  have HBD : Hid (Below w.heap.size w wc) := hbd
  obtain ⟨dp, dc, hvd, _⟩ := own_slice hSd.r
  obtain ⟨dn, hdn⟩ : ∃ dn, dn = ld.length := ⟨_, rfl⟩
  rw [← hdn] at hvd
  obtain ⟨uo, uc, huv, _⟩ := own_slice hMd.u
  obtain ⟨un, hun⟩ : ∃ un, un = x.under.length := ⟨_, rfl⟩
  rw [← hun] at huv
  have HUN : Hid (un = x.under.length) := hun
  have c6 : wc.cell? ⟨lb, 6, none⟩ = some uv := hMd.b.cell 6
  clear hpd hSd hbd hMd hdn hun
  subst hvd huv
  obtain ⟨x1, hx1⟩ : ∃ x1 : LV, x1 = { x with age := if x.under.length = 0 then 0 else x.age } := ⟨_, rfl⟩
  have HX1 : Hid (x1 = { x with age := if x.under.length = 0 then 0 else x.age }) := hx1
  clear hx1
  go_upto_if 26 with fail
  go_cut [2] from 4 (fun _ wd => LM L lb cb mb (.slice uo un uc) x1 wd ∧ SL w.heap.size (.slice dp dn dc) ld wd ∧ LStp lb cb mb (.slice uo un uc) (.slice uo un uc) x x1 w wd)
  case first =>
    by_cases hz : un = 0
    · have hzb : ((un : Int) == 0) = true := by simp [hz]
      have c8 : wc.cell? ⟨lb, 8, none⟩ = some (.int .i64 x.age) := HMD.out.b.cell 8
      have f8 : wc.frozen? ⟨lb, 8, none⟩ = false := HMD.out.b.frozen 8
      have hBn : Blk (wc.setCell ⟨lb, 8, none⟩ (.int .i64 0)) lb (lbox x1 cb mb (.slice uo un uc)) 77 := by
        rw [HX1.out, if_pos (HUN.out.symm.trans hz)]
        exact HMD.out.b.set 8 _
      have hbx := HMD.out.box (setCell_chg wc lb 8 (.int .i64 0)) hBn (by rw [HX1.out]) (by rw [HX1.out]) (by rw [HX1.out]) (by rw [HX1.out])
      have HR : Hid (LM L lb cb mb (.slice uo un uc) x1 (wc.setCell ⟨lb, 8, none⟩ (.int .i64 0)) ∧ SL w.heap.size (.slice dp dn dc) ld (wc.setCell ⟨lb, 8, none⟩ (.int .i64 0)) ∧ LStp lb cb mb (.slice uo un uc) (.slice uo un uc) x x1 w (wc.setCell ⟨lb, 8, none⟩ (.int .i64 0))) := ⟨hbx.1, HSD.out.keep (setCell_chg wc lb 8 (.int .i64 0)) (fun k hk e => by
        have h1 := (HSD.out.lt hk).1
        have h2 := HM.out.b.lt
        omega), (LStp.refl HBD.out).trans hbx.2⟩
      clear hBn hbx
      subst hz
      go_wp2_with fail
      go_meet
      case rel => exact HR.out
    · have hzb : ((un : Int) == 0) = false := by simpa using hz
      have he : x1 = x := by
        rw [HX1.out, if_neg (by rw [← HUN.out]; exact hz)]
      have HE : Hid (x1 = x) := he
      clear he
      go_wp2_with fail
      go_meet
      case rel => exact ⟨by rw [HE.out]; exact HMD.out, HSD.out, by rw [HE.out]; exact LStp.refl HBD.out⟩
  case rest =>
  clear HSD HMD HBD c6
  obtain ⟨hM1, hS1, hst1⟩ := hcut
  have c11 : wc.cell? ⟨lb, 11, none⟩ = some (.bool x1.owed) := hM1.b.cell 11
  have f11 : wc.frozen? ⟨lb, 11, none⟩ = false := hM1.b.frozen 11
  have hBa : Blk (wc.setCell ⟨lb, 11, none⟩ (.bool false)) lb (lbox { x1 with owed := false } cb mb (.slice uo un uc)) 77 := hM1.b.set 11 _
  have ca : (wc.setCell ⟨lb, 11, none⟩ (.bool false)).cell? ⟨lb, 7, none⟩ = some (.bool x1.due) := hBa.cell 7
  have fa : (wc.setCell ⟨lb, 11, none⟩ (.bool false)).frozen? ⟨lb, 7, none⟩ = false := hBa.frozen 7
  have hBb : Blk ((wc.setCell ⟨lb, 11, none⟩ (.bool false)).setCell ⟨lb, 7, none⟩ (.bool false)) lb (lbox x.calm cb mb (.slice uo un uc)) 77 := by
    have h1 := hBa.set 7 (.bool false)
    rw [HX1.out] at h1
    exact h1
  obtain ⟨X, hX⟩ : ∃ X, X = (wc.setCell ⟨lb, 11, none⟩ (.bool false)).setCell ⟨lb, 7, none⟩ (.bool false) := ⟨_, rfl⟩
  have hcX : Chg (fun k => k = lb) wc X := by rw [hX]; exact (setCell_chg _ _ _ _).trans (setCell_chg _ _ _ _) (fun _ _ e => e)
  rw [← hX] at hBb
  have hbx := hM1.box hcX hBb (by rw [HX1.out]; rfl) (by rw [HX1.out]; rfl) (by rw [HX1.out]; rfl) (by rw [HX1.out]; rfl)
  have hSX : SL w.heap.size (.slice dp dn dc) ld X := hS1.keep hcX (fun k hk e => by
    have h1 := (hS1.lt hk).1
    have h2 := HM.out.b.lt
    omega)
  have hlw : ∀ k, lown lb cb mb (.slice uo un uc) x.calm k → lown lb cb mb (.slice uo un uc) x k := fun k hk => hk
  have HST : Hid (LStp lb cb mb (.slice uo un uc) (.slice uo un uc) x x.calm w X) := hst1.trans hbx.2
  have hap : ∀ k, slown (.slice dp dn dc) ld k → ¬ lown lb cb mb (.slice uo un uc) x.calm k := fun k h1 h2 => by
    have h3 := (HM.out.lt (hlw k h2)).2
    have h4 := (hSX.lt h1).1
    omega
  have HEM : Hid _ := empty_any (x := x.calm) X hbx.1 hSX hap HST.out.1.size (by omega) hn hb hu hbx_ (fun d hd => HDS.out d (by unfold LV.all; simp [show d ∈ x.box from hd]))
  have HSX : Hid (SL w.heap.size (.slice dp dn dc) ld X) := hSX
  have HEX : Hid (X = (wc.setCell ⟨lb, 11, none⟩ (.bool false)).setCell ⟨lb, 7, none⟩ (.bool false)) := hX
  clear hM1 hS1 hst1 hBa hBb hX hcX hbx hSX hlw hap
  go_upto_region 9 with fail
  rw [← HEX.out]
  clear HEX c11 f11 ca fa
  go_wp2_with fail
  refine Calls.mono HEM.out ?_
  rintro e w9 ⟨v9, uv9, l9, rfl, hE⟩
  have HR : Hid (l9.map Sgm.pr = outTells x ∧ SL w.heap.size v9 l9 w9 ∧ LM L lb cb mb uv9 (x.calm.moved x.box.length) w9 ∧ LStp lb cb mb (.slice uo un uc) uv9 x (x.calm.moved x.box.length) w w9 ∧ ∀ k, slown v9 l9 k → ¬ lown lb cb mb uv9 (x.calm.moved x.box.length) k) := by
    have hsz := HST.out.1.size
    refine ⟨?_, hE.sl, hE.lm, ⟨?_, fun k hk => ?_⟩, hE.ap⟩
    · rw [hE.pr, HPD.out]
      unfold outTells
      rw [← HL1.out, ← HL2.out]
      have : x.calm.box.take x.calm.box.length = x.box := List.take_length
      rw [this]
      rfl
    · exact HST.out.1.trans hE.ch (fun k hk hq => by
        rcases hq with q | q
        · exact q
        · have := (HSX.out.lt (.inl q)).1; omega)
    · rcases hE.nl k hk with q | q
      · exact Or.inl q
      · exact Or.inr (by omega)
  clear hE HEM HSX
  go_wp2_with fail
  go_ret
  exact ⟨_, uv9, l9, rfl, HR.out⟩
/-- A tick. -/
def LV.tick (x : LV) : LV := if x.under.length = 0 then x else if x.age + 1 = x.res then { x with due := true, age := 0 } else { x with age := x.age + 1 }
set_option maxRecDepth 100000 in
set_option maxHeartbeats 3200000 in
theorem tick_any {L lb cb mb : Nat} {uv : Value} {x : LV} (w : World) (h : LM L lb cb mb uv x w) (ha : 0 ≤ x.age ∧ x.age ≤ 1000) :
    Calls Try.prog 17 #[.pointer (some ⟨lb, 0, none⟩)] w fun e w' => e = .returned (.tuple #[]) ∧ LM L lb cb mb uv x.tick w' ∧ LStp lb cb mb uv uv x x.tick w w' := by
  obtain ⟨uo, uc, huv, _⟩ := own_slice h.u
  obtain ⟨un, hun⟩ : ∃ un, un = x.under.length := ⟨_, rfl⟩
  rw [← hun] at huv
  subst huv
  have c6 : w.cell? ⟨lb, 6, none⟩ = some (.slice uo un uc) := h.b.cell 6
  have c8 : w.cell? ⟨lb, 8, none⟩ = some (.int .i64 x.age) := h.b.cell 8
  have f8 : w.frozen? ⟨lb, 8, none⟩ = false := h.b.frozen 8
  obtain ⟨ha1, ha2⟩ := ha
  have HM : Hid _ := h
  have HUN : Hid (un = x.under.length) := hun
  clear hun
  by_cases hz : un = 0
  · have he : x.tick = x := by unfold LV.tick; rw [if_pos (HUN.out.symm.trans hz)]
    have HE : Hid (x.tick = x) := he
    clear h he
    subst hz
    go_enter Try.func17, Try.ntmps17
    go_wp2_with fail
    refine bodyPost_ret (results_none rfl _ _ _) rfl ?_
    exact ⟨rfl, by rw [HE.out]; exact HM.out, by rw [HE.out]; exact LStp.refl (Below.refl _ _)⟩
  · have hzb : ((un : Int) == 0) = false := by simpa using hz
    have hB1 : Blk (w.setCell ⟨lb, 8, none⟩ (.int .i64 (x.age + 1))) lb (lbox { x with age := x.age + 1 } cb mb (.slice uo un uc)) 77 := h.b.set 8 _
    have d8 : (w.setCell ⟨lb, 8, none⟩ (.int .i64 (x.age + 1))).cell? ⟨lb, 8, none⟩ = some (.int .i64 (x.age + 1)) := hB1.cell 8
    have d3 : (w.setCell ⟨lb, 8, none⟩ (.int .i64 (x.age + 1))).cell? ⟨lb, 3, none⟩ = some (.int .i64 x.res) := hB1.cell 3
    have d7 : (w.setCell ⟨lb, 8, none⟩ (.int .i64 (x.age + 1))).cell? ⟨lb, 7, none⟩ = some (.bool x.due) := hB1.cell 7
    have g7 : (w.setCell ⟨lb, 8, none⟩ (.int .i64 (x.age + 1))).frozen? ⟨lb, 7, none⟩ = false := hB1.frozen 7
    have hB2 : Blk ((w.setCell ⟨lb, 8, none⟩ (.int .i64 (x.age + 1))).setCell ⟨lb, 7, none⟩ (.bool true)) lb (lbox { x with age := x.age + 1, due := true } cb mb (.slice uo un uc)) 77 := hB1.set 7 _
    obtain ⟨X, hX⟩ : ∃ X, X = w.setCell ⟨lb, 8, none⟩ (.int .i64 (x.age + 1)) := ⟨_, rfl⟩
    rw [← hX] at hB1 d8 d3 d7 g7 hB2
    have hcX : Chg (fun k => k = lb) w X := by rw [hX]; exact setCell_chg _ _ _ _
    have HEX : Hid (X = w.setCell ⟨lb, 8, none⟩ (.int .i64 (x.age + 1))) := hX
    by_cases hr : x.age + 1 = x.res
    · have hrb : (x.age + 1 == x.res) = true := by simp [hr]
      have he : x.tick = { x with due := true, age := 0 } := by unfold LV.tick; rw [if_neg (by rw [← HUN.out]; exact hz), if_pos hr]
      have e8 : ∀ q, ((X.drewN q).setCell ⟨lb, 7, none⟩ (.bool true)).cell? ⟨lb, 8, none⟩ = some (.int .i64 (x.age + 1)) := fun q => (Blk.cell (show Blk ((X.drewN q).setCell ⟨lb, 7, none⟩ (.bool true)) lb _ 77 from (Blk.set (w := X.drewN q) hB1 7 (.bool true))) 8)
      have g8 : ∀ q, ((X.drewN q).setCell ⟨lb, 7, none⟩ (.bool true)).frozen? ⟨lb, 8, none⟩ = false := fun q => Blk.frozen (show Blk ((X.drewN q).setCell ⟨lb, 7, none⟩ (.bool true)) lb _ 77 from (Blk.set (w := X.drewN q) hB1 7 (.bool true))) 8
      have HR : Hid (∀ q, LM L lb cb mb (.slice uo un uc) x.tick (((X.drewN q).setCell ⟨lb, 7, none⟩ (.bool true)).setCell ⟨lb, 8, none⟩ (.int .i64 0)) ∧ LStp lb cb mb (.slice uo un uc) (.slice uo un uc) x x.tick w (((X.drewN q).setCell ⟨lb, 7, none⟩ (.bool true)).setCell ⟨lb, 8, none⟩ (.int .i64 0))) := fun q => by
        rw [he]
        refine HM.out.box ?_ ?_ rfl rfl rfl rfl
        · exact ((hcX.drewN q).trans (setCell_chg _ _ _ _) (fun _ _ e => e)).trans (setCell_chg _ _ _ _) (fun _ _ e => e)
        · exact (Blk.set (w := X.drewN q) hB1 7 (.bool true)).set 8 (.int .i64 0)
      clear h he hB1 hB2 hX hcX
      rw [← hr] at d3
      clear hr
      go_enter Try.func17, Try.ntmps17
      go_upto_region 2 with fail
      rw [← HEX.out]
      clear HEX c6 c8 f8
      go_wp2_with fail
      go_quiet (fail)
      go_wp2_with fail
      go_end0
      exact ⟨rfl, HR.out _⟩
    · have hrb : (x.age + 1 == x.res) = false := by simpa using hr
      have he : x.tick = { x with age := x.age + 1 } := by unfold LV.tick; rw [if_neg (by rw [← HUN.out]; exact hz), if_neg hr]
      have HR : Hid (∀ q, LM L lb cb mb (.slice uo un uc) x.tick (X.drewN q) ∧ LStp lb cb mb (.slice uo un uc) (.slice uo un uc) x x.tick w (X.drewN q)) := fun q => by
        rw [he]
        exact HM.out.box (hcX.drewN q) hB1 rfl rfl rfl rfl
      clear h he hB1 hB2 hX hcX
      go_enter Try.func17, Try.ntmps17
      go_upto_region 2 with fail
      rw [← HEX.out]
      clear HEX c6 c8 f8
      go_wp2_with fail
      go_quiet (fail)
      go_wp2_with fail
      go_end0
      exact ⟨rfl, HR.out _⟩
end Go.Proofs.Ytcjgicfmfjomgaa
