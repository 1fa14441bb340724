import Derived.Test.YtgohjkamikpdcaaRts
import Derived.Test.YtgohjkamikpdcaaAble
namespace Go.Proofs.Ytgohjkamikpdcaa
open Go.RowKit Go.PlainAid
set_option linter.unusedVariables false
set_option linter.unusedSimpArgs false
def okS (d u : Int) : Bool := decide (0 ≤ d) && decide (0 ≤ u) && decide (d + u ≤ 1099511627776)
def splitC (d u : Int) (ws : List Int) : Int := if okS d u then dealC d ws else 1
def splitL (d u : Int) (ws : List Int) : List (Int × Int) := if okS d u then (dealL d ws).zip (dealL u ws) else []
/-- What Split holds in memory: down parts, up parts, pairs. -/
structure SM (L gd cd gu cu gs n : Nat) (ds us : List Int) (ps : List (Int × Int)) (w wr : World) : Prop where
  below : Below L w wr
  d : wr.ownsRow L 3 1 (.slice (some ⟨gd, 0, none⟩) n cd) n (ds.map I)
  u : wr.ownsRow L 3 1 (.slice (some ⟨gu, 0, none⟩) n cu) n (us.map I)
  p : wr.ownsRow L 38 2 (.slice (some ⟨gs, 0, none⟩) n n) n (flatR ps)
  ds : gd ≠ gs
  us : gu ≠ gs
section
variable {L gd cd gu cu gs n : Nat} {ds us : List Int} {ps : List (Int × Int)} {w wr : World}
theorem SM.set (h : SM L gd cd gu cu gs n ds us ps w wr) {k : Nat} (hk : k < n) (a b : Int) : SM L gd cd gu cu gs n ds us (ps.set k (a, b)) w ((wr.setCell ⟨gs, k * 2, none⟩ (.int .i64 a)).setCell ⟨gs, k * 2 + 1, none⟩ (.int .i64 b)) ∧ wr.frozen? ⟨gs, k * 2, none⟩ = false ∧ wr.frozen? ⟨gs, k * 2 + 1, none⟩ = false ∧ wr.cell? ⟨gs, k * 2, none⟩ = some (.int .i64 (atR ps k).1) ∧ wr.cell? ⟨gs, k * 2 + 1, none⟩ = some (.int .i64 (atR ps k).2) := by
  obtain ⟨h1, h2, h3⟩ := ownR_set h.p hk a b
  have hL := (ownsRow_lt h.p (g := gs) rfl).1
  obtain ⟨c1, c2⟩ := ownR_at h.p hk
  exact ⟨⟨(h.below.setCell (p := ⟨gs, k * 2, none⟩) hL _).setCell (p := ⟨gs, k * 2 + 1, none⟩) hL _, own_other (own_other h.d h.ds _) h.ds _, own_other (own_other h.u h.us _) h.us _, h1, h.ds, h.us⟩, h2, h3, c1, c2⟩
theorem SM.drew (h : SM L gd cd gu cu gs n ds us ps w wr) : SM L gd cd gu cu gs n ds us ps w wr.drew := ⟨h.below.drew, ownsRow_same h.d (fun _ _ => rfl), ownsRow_same h.u (fun _ _ => rfl), ownsRow_same h.p (fun _ _ => rfl), h.ds, h.us⟩
end
theorem dealL_length {t : Int} {ws : List Int} (h : okD t ws = true) : (dealL t ws).length = ws.length := by unfold dealL; rw [if_pos h, dealG_length, cnt_length]
set_option maxRecDepth 100000 in
set_option maxHeartbeats 3200000 in
theorem split_any {ao : Option Addr} {n c : Nat} {ws : List Int} (d u : Int) (hdw : IntKind.i64.wrap d = d) (huw : IntKind.i64.wrap u = u) (w : World) (hl : ws.length = n) (hx : FromI w ao ws) (hn : n ≤ maxLen) :
    Calls Try.prog 14 #[.agg #[.int .i64 d, .int .i64 u], .slice ao n c] w fun r w' => ∃ v, r = .returned (.tuple #[v, .int .i64 (splitC d u ws)]) ∧ w'.ownsRow w.heap.size 38 2 v (splitL d u ws).length (flatR (splitL d u ws)) ∧ Below w.heap.size w w' := by
  rw [IntKind.wrap_i64] at hdw huw
  have hB0 : Below w.heap.size w (w.alloc (.cells #[.int .i64 d, .int .i64 u] 38)) := (Below.refl _ _).alloc (Nat.le_refl _) _
  have HB0 : Hid _ := hB0
  have HX0 : Hid (FromI (w.alloc (.cells #[.int .i64 d, .int .i64 u] 38)) ao ws) := FromI.all hx hB0
  have hK0 : Blk (w.alloc (.cells #[.int .i64 d, .int .i64 u] 38)) w.heap.size #[.int .i64 d, .int .i64 u] 38 := heap_alloc_new w _
  have b0 : (w.alloc (.cells #[.int .i64 d, .int .i64 u] 38)).cell? ⟨w.heap.size, 0, none⟩ = some (.int .i64 d) := hK0.cell 0
  have b1 : (w.alloc (.cells #[.int .i64 d, .int .i64 u] 38)).cell? ⟨w.heap.size, 1, none⟩ = some (.int .i64 u) := hK0.cell 1
  clear hx hB0
  by_cases h1 : d < 0
  · have e : okS d u = false := by simp [okS]; omega
    rw [show splitC d u ws = 1 by simp [splitC, e], show splitL d u ws = [] by simp [splitL, e]]
    clear hK0
    go_enter Try.func14, Try.ntmps14
    go_wp2
    go_ret2
    exact ⟨_, rfl, World.ownsRow_nil _ _ _ _, HB0.out⟩
  by_cases h2 : u < 0
  · have e : okS d u = false := by simp [okS]; omega
    rw [show splitC d u ws = 1 by simp [splitC, e], show splitL d u ws = [] by simp [splitL, e]]
    clear hK0
    go_enter Try.func14, Try.ntmps14
    go_wp2
    go_ret2
    exact ⟨_, rfl, World.ownsRow_nil _ _ _ _, HB0.out⟩
  have hwm : IntKind.i64.wrap (1099511627776 - u) = 1099511627776 - u := by rw [IntKind.wrap_i64]; omega
  by_cases h3 : 1099511627776 - u < d
  · have e : okS d u = false := by simp [okS]; omega
    rw [show splitC d u ws = 1 by simp [splitC, e], show splitL d u ws = [] by simp [splitL, e]]
    clear hK0
    go_enter Try.func14, Try.ntmps14
    go_wp2
    go_ret2
    exact ⟨_, rfl, World.ownsRow_nil _ _ _ _, HB0.out⟩
  have e : okS d u = true := by simp [okS]; omega
  rw [show splitC d u ws = dealC d ws by simp [splitC, e], show splitL d u ws = (dealL d ws).zip (dealL u ws) by simp [splitL, e]]
  clear e
  have hd1 := deal_any (c := c) d _ hl HX0.out hn
  by_cases hr : rightW ws = true
  · have hod : okD d ws = true := by simp [okD, hr]; omega
    have hou : okD u ws = true := by simp [okD, hr]; omega
    have hdl := dealL_length hod
    have hul := dealL_length hou
    rw [hl] at hdl hul
    have hC := cnt_ok hr
    rw [hl] at hC
    have hp := hC.pos
    have hle := hC.le
    have hcd : dealC d ws = 0 := by simp [dealC, hod]
    have hcu : dealC u ws = 0 := by simp [dealC, hou]
    rw [hcd, hdl] at hd1
    rw [hcd]
    have hzl : ((dealL d ws).zip (dealL u ws)).length = n := by simp; omega
    rw [hzl]
    have HUC : Hid (∀ w1, FromI w1 ao ws → Calls Try.prog 13 #[.int .i64 u, .slice ao n c] w1 fun r w' => ∃ v, r = .returned (.tuple #[v, .int .i64 0]) ∧ w'.ownsRow w1.heap.size 3 1 v n ((dealL u ws).map I) ∧ Below w1.heap.size w1 w') := fun w1 hf => by
      have := deal_any (c := c) u w1 hl hf hn
      rwa [hcu, hul] at this
    clear hod hou hC hr hcd hcu hzl
    generalize dealL d ws = ds at *
    generalize dealL u ws = us at *
    have hK1 : ∀ w1, Below (w.alloc (.cells #[.int .i64 d, .int .i64 u] 38)).heap.size (w.alloc (.cells #[.int .i64 d, .int .i64 u] 38)) w1 → w1.cell? ⟨w.heap.size, 1, none⟩ = some (.int .i64 u) := fun w1 hb => (Blk.below hK0 hb hK0.lt).cell 1
    have HK1 : Hid _ := hK1
    clear hK0 hK1
    go_enter Try.func14, Try.ntmps14
    go_wp2_with (first
      | (go_at_call 13; refine hd1.mono ?_; rintro e w1 ⟨v, rfl, hv, hb⟩; obtain ⟨gd, cd, rfl, hcd, _, hLd, hsd, _⟩ := own_form hv hp; have b2 := HK1.out w1 hb; have HV1 : Hid (w1.ownsRow (w.alloc (.cells #[.int .i64 d, .int .i64 u] 38)).heap.size 3 1 (.slice (some ⟨gd, 0, none⟩) n cd) n (ds.map I)) := hv; have HB1 : Hid (Below (w.alloc (.cells #[.int .i64 d, .int .i64 u] 38)).heap.size (w.alloc (.cells #[.int .i64 d, .int .i64 u] 38)) w1) := hb; clear hv hb hd1)
      | fail)
    have HBW : Hid (Below w.heap.size w w1) := HB0.out.trans (HB1.out.mono (by simp))
    go_at_call 13
    refine (HUC.out w1 (FromI.all HX0.out HB1.out)).mono ?_
    rintro e w2 ⟨v, rfl, hv, hb⟩
    obtain ⟨gu, cu, rfl, hcu, _, hLu, hsu, _⟩ := own_form hv hp
    have hmk := fun W => make2_run n hle W
    have hS : SM w.heap.size gd cd gu cu w2.heap.size n ds us (List.replicate n (0, 0)) w (w2.alloc (.cells (zeros2 n) 38)) := by
      have q1 := HBW.out.size
      have q2 : Below w.heap.size w w2 := HBW.out.trans (hb.mono q1)
      have q3 : w2.ownsRow w.heap.size 3 1 (.slice (some ⟨gd, 0, none⟩) n cd) n (ds.map I) := ownsRow_mono (ownsRow_same HV1.out (fun j hj => hb.block j (ownsRow_lt HV1.out hj).2)) (by simp)
      have q4 : w2.ownsRow w.heap.size 3 1 (.slice (some ⟨gu, 0, none⟩) n cu) n (us.map I) := ownsRow_mono hv q1
      have q5 := (ownsRow_lt q3 (g := gd) rfl).2
      exact ⟨q2.alloc q2.size _, q3.alloc _, q4.alloc _, make2_own n hle w2 q2.size, by omega, by omega⟩
    have HS : Hid _ := hS
    clear hv hb hS HV1 HB1 HBW HUC HK1 HB0 b0 b1 b2 hLu hsu hLd hsd
    go_wp2
    generalize w2.alloc (.cells (zeros2 n) 38) = X0 at HS ⊢
    generalize w2.heap.size = gs at HS ⊢
    clear hmk
    go_loopw [50] (fun i wr => ∃ k : Nat, k ≤ n ∧ i = .int .i64 k ∧ Hid (SM w.heap.size gd cd gu cu gs n ds us (pairTo k ds us) w wr)) (fun i _ => n - (intOf i).toNat)
    case atStart => exact ⟨0, Nat.zero_le _, rfl, by rw [pairTo_zero, hdl]; exact HS⟩
    case round =>
      clear HS
      obtain ⟨k, hk, rfl, HS⟩ := hrel
      by_cases hlt : k < n
      · have cd1 := own_at HS.out.d hlt
        have cu1 := own_at HS.out.u hlt
        obtain ⟨S1, f1, f2, p1, p2⟩ := HS.out.drew.set hlt (at0 ds k) (at0 us k)
        rw [pairTo_set hdl hul hlt] at S1
        have HS1 : Hid _ := S1
        clear S1 HS
        generalize at0 ds k = zd at *
        generalize at0 us k = zu at *
        replace f1 : wr.frozen? ⟨gs, k * 2, none⟩ = false := f1
        replace f2 : wr.frozen? ⟨gs, k * 2 + 1, none⟩ = false := f2
        replace p1 : wr.cell? ⟨gs, k * 2, none⟩ = some (.int .i64 (atR (pairTo k ds us) k).1) := p1
        replace p2 : wr.cell? ⟨gs, k * 2 + 1, none⟩ = some (.int .i64 (atR (pairTo k ds us) k).2) := p2
        generalize atR (pairTo k ds us) k = pr at *
        go_wp2_with fail
        rename_i K hK
        try rw [show ∀ a : Act, a.put none undef = a from fun _ => rfl]
        refine wp_region_mix (fun wq => ∀ p : Addr, wq.cell? p = wr.cell? p) (fun i => i == 12) 12 (by kernel_rfl) rfl (by kernel_rfl) (by kernel_rfl) (by kernel_rfl) ?_
        refine withFrP (N := 67) rfl ?_
        intro f0 F0 hff
        have e6 : f0 6 = Value.slice (some ⟨gd, 0, none⟩) n cd := hff 6
        have e8 : f0 8 = Value.slice (some ⟨gu, 0, none⟩) n cu := hff 8
        have e10 : f0 10 = Value.slice (some ⟨gs, 0, none⟩) n n := hff 10
        have e11 : f0 11 = Value.int .i64 (k : Int) := hff 11
        clear hff
        have HCC : ∀ p : Addr, (({ wr with drawn := wr.drawn + 1 } : World)).cell? p = wr.cell? p := fun _ => rfl
        refine lyp F0 rfl HCC rfl (by omega) (wanted_none rfl) (v := Value.slice (some ⟨gs, 0, none⟩) n n) (fun wr hwr => by simp only [execOp, (F0.eval 10 (by omega)).trans (show _ = Value.slice (some ⟨gs, 0, none⟩) n n from by simp [upd, e6, e8, e10, e11])]; first | rfl | simp [go_sem]) fun F1 => ?_
        refine lyp F1 rfl HCC rfl (by omega) (wanted_none rfl) (v := Value.int .i64 (k : Int)) (fun wr hwr => by simp only [execOp, (F1.eval 11 (by omega)).trans (show _ = Value.int .i64 (k : Int) from by simp [upd, e6, e8, e10, e11])]; first | rfl | simp [go_sem]) fun F2 => ?_
        refine lyp F2 rfl HCC rfl (by omega) (wanted_none rfl) (v := Value.slice (some ⟨gd, 0, none⟩) n cd) (fun wr hwr => by simp only [execOp, (F2.eval 6 (by omega)).trans (show _ = Value.slice (some ⟨gd, 0, none⟩) n cd from by simp [upd, e6, e8, e10, e11])]; first | rfl | simp [go_sem]) fun F3 => ?_
        refine lyp F3 rfl HCC rfl (by omega) (wanted_none rfl) (v := Value.int .i64 (k : Int)) (fun wr hwr => by simp only [execOp, (F3.eval 11 (by omega)).trans (show _ = Value.int .i64 (k : Int) from by simp [upd, e6, e8, e10, e11])]; first | rfl | simp [go_sem]) fun F4 => ?_
        refine lyp F4 rfl HCC rfl (by omega) (wanted_none rfl) (v := Value.pointer (some ⟨gd, k, none⟩)) (fun wr hwr => by simp only [execOp, (F4.eval 55 (by omega)).trans (show _ = Value.slice (some ⟨gd, 0, none⟩) n cd from by simp [upd, e6, e8, e10, e11]), (F4.eval 56 (by omega)).trans (show _ = Value.int .i64 (k : Int) from by simp [upd, e6, e8, e10, e11])]; simp [go_sem, hlt]) fun F5 => ?_
        refine lyp F5 rfl HCC rfl (by omega) (wanted_none rfl) (v := Value.int .i64 zd) (fun wr hwr => by simp only [execOp, (F5.eval 57 (by omega)).trans (show _ = Value.pointer (some ⟨gd, k, none⟩) from by simp [upd, e6, e8, e10, e11])]; simp [go_sem, hwr _, cd1]) fun F6 => ?_
        refine lyp F6 rfl HCC rfl (by omega) (wanted_none rfl) (v := Value.slice (some ⟨gu, 0, none⟩) n cu) (fun wr hwr => by simp only [execOp, (F6.eval 8 (by omega)).trans (show _ = Value.slice (some ⟨gu, 0, none⟩) n cu from by simp [upd, e6, e8, e10, e11])]; first | rfl | simp [go_sem]) fun F7 => ?_
        refine lyp F7 rfl HCC rfl (by omega) (wanted_none rfl) (v := Value.int .i64 (k : Int)) (fun wr hwr => by simp only [execOp, (F7.eval 11 (by omega)).trans (show _ = Value.int .i64 (k : Int) from by simp [upd, e6, e8, e10, e11])]; first | rfl | simp [go_sem]) fun F8 => ?_
        refine lyp F8 rfl HCC rfl (by omega) (wanted_none rfl) (v := Value.pointer (some ⟨gu, k, none⟩)) (fun wr hwr => by simp only [execOp, (F8.eval 59 (by omega)).trans (show _ = Value.slice (some ⟨gu, 0, none⟩) n cu from by simp [upd, e6, e8, e10, e11]), (F8.eval 60 (by omega)).trans (show _ = Value.int .i64 (k : Int) from by simp [upd, e6, e8, e10, e11])]; simp [go_sem, hlt]) fun F9 => ?_
        refine lyp F9 rfl HCC rfl (by omega) (wanted_none rfl) (v := Value.int .i64 zu) (fun wr hwr => by simp only [execOp, (F9.eval 61 (by omega)).trans (show _ = Value.pointer (some ⟨gu, k, none⟩) from by simp [upd, e6, e8, e10, e11])]; simp [go_sem, hwr _, cu1]) fun F10 => ?_
        refine lyp F10 rfl HCC rfl (by omega) (wanted_none rfl) (v := Value.agg #[.int .i64 zd, .int .i64 zu]) (fun wr hwr => by simp only [execOp, List.map_toArray, List.map_cons, List.map_nil, (F10.eval 58 (by omega)).trans (show _ = Value.int .i64 zd from by simp [upd, e6, e8, e10, e11]), (F10.eval 62 (by omega)).trans (show _ = Value.int .i64 zu from by simp [upd, e6, e8, e10, e11])]; simp [go_sem]) fun F11 => ?_
        refine lyp F11 rfl HCC rfl (by omega) (wanted_none rfl) (v := Value.pointer (some ⟨gs, k * 2, none⟩)) (fun wr hwr => by simp only [execOp, (F11.eval 53 (by omega)).trans (show _ = Value.slice (some ⟨gs, 0, none⟩) n n from by simp [upd, e6, e8, e10, e11]), (F11.eval 54 (by omega)).trans (show _ = Value.int .i64 (k : Int) from by simp [upd, e6, e8, e10, e11])]; simp [go_sem, hlt]) fun F12 => ?_
        refine lst rfl HCC rfl (wanted_none rfl) (w1 := ((({ wr with drawn := wr.drawn + 1 } : World)).setCell ⟨gs, k * 2, none⟩ (.int .i64 zd)).setCell ⟨gs, k * 2 + 1, none⟩ (.int .i64 zu)) (by simp only [execOp, (F12.eval 64 (by omega)).trans (show _ = Value.pointer (some ⟨gs, k * 2, none⟩) from by simp [upd, e6, e8, e10, e11]), (F12.eval 63 (by omega)).trans (show _ = Value.agg #[.int .i64 zd, .int .i64 zu] from by simp [upd, e6, e8, e10, e11])]; simp [go_sem, p1, p2, f1, f2]) ?_
        refine ⟨fun h => absurd h (by decide), ?_⟩
        refine hK _ _ ?_
        clear F0 F1 F2 F3 F4 F5 F6 F7 F8 F9 F10 F11 F12 e6 e8 e10 e11 HCC
        simp only [Act.put, List.setIfInBounds_toArray, List.set_cons_succ, List.set_cons_zero]
        generalize hY : ((({ wr with drawn := wr.drawn + 1 } : World)).setCell ⟨gs, k * 2, none⟩ (.int .i64 zd)).setCell ⟨gs, k * 2 + 1, none⟩ (.int .i64 zu) = Y
        have hY2 : ((wr.drew).setCell ⟨gs, k * 2, none⟩ (.int .i64 zd)).setCell ⟨gs, k * 2 + 1, none⟩ (.int .i64 zu) = Y := hY
        rw [hY2] at HS1
        clear hY hY2 f1 f2 p1 p2 cd1 cu1
        go_wp2
        go_roundw
        case rel => exact ⟨k + 1, by omega, by go_num, HS1⟩
        case measure => simp [intOf]; omega
      · obtain rfl : n = k := by omega
        go_wp2
        go_ret2
        refine ⟨_, rfl, ?_, HS.out.below⟩
        rw [← pairTo_all hdl hul]
        exact HS.out.p
  · have hr' : rightW ws = false := by simpa using hr
    have hod : okD d ws = false := by simp [okD, hr']
    have hcd : dealC d ws = 1 := by simp [dealC, hod]
    have hdl : dealL d ws = [] := by simp [dealL, hod]
    rw [hcd, hdl] at hd1 ⊢
    clear hod hr hr' hcd hdl hK0
    go_enter Try.func14, Try.ntmps14
    go_wp2_with (first
      | (go_at_call 13; refine hd1.mono ?_; rintro e w1 ⟨v, rfl, hv, hb⟩; have HBW : Hid (Below w.heap.size w w1) := HB0.out.trans (hb.mono (by simp)); clear hv hb hd1)
      | fail)
    go_ret2
    exact ⟨_, rfl, World.ownsRow_nil _ _ _ _, HBW.out⟩
end Go.Proofs.Ytgohjkamikpdcaa
