import Derived.Test.YtgohjkamikpdcaaRD1
import Derived.Test.YtgohjkamikpdcaaSpl
namespace Go.Proofs.Ytgohjkamikpdcaa
open Go.RowKit Go.PlainAid
set_option linter.unusedVariables false
set_option linter.unusedSimpArgs false
set_option maxRecDepth 100000 in
set_option maxHeartbeats 1600000 in
/-- The reference's Deal, whatever is handed in. -/
theorem rdeal_any {ao : Option Addr} {n c : Nat} {ws : List Int} (total : Int) (w : World) (hl : ws.length = n) (hx : FromI w ao ws) (hn : n ≤ maxLen) :
    Calls Try.prog 22 #[.int .i64 total, .slice ao n c] w fun r w' => ∃ v, r = .returned (.tuple #[v, .int .i64 (dealC total ws)]) ∧ w'.ownsRow w.heap.size 3 1 v (dealL total ws).length ((dealL total ws).map I) ∧ Below w.heap.size w w' := by
  by_cases h1 : total < 0
  · have e : okD total ws = false := by simp [okD]; omega
    rw [show dealC total ws = 1 by simp [dealC, e], show dealL total ws = [] by simp [dealL, e]]
    clear hx
    go_enter Try.func22, Try.ntmps22
    go_wp2
    go_ret2
    exact ⟨_, rfl, World.ownsRow_nil _ _ _ _, Below.refl _ _⟩
  · by_cases h2 : 1099511627776 < total
    · have e : okD total ws = false := by simp [okD]; omega
      rw [show dealC total ws = 1 by simp [dealC, e], show dealL total ws = [] by simp [dealL, e]]
      clear hx
      go_enter Try.func22, Try.ntmps22
      go_wp2
      go_ret2
      exact ⟨_, rfl, World.ownsRow_nil _ _ _ _, Below.refl _ _⟩
    · by_cases h3 : rightW ws = true
      · have e : okD total ws = true := by simp [okD, h3]; omega
        rw [show dealC total ws = 0 by simp [dealC, e], show dealL total ws = dealG total (cnt ws) by simp [dealL, e], dealG_length, cnt_length, hl]
        have hC := cnt_ok h3
        obtain ⟨b, off, rfl, _⟩ := hx (by have := hC.pos; omega)
        exact rdeal_ok total (by omega) (by omega) w hl hx h3
      · have h3' : rightW ws = false := by simpa using h3
        have e : okD total ws = false := by simp [okD, h3']
        rw [show dealC total ws = 1 by simp [dealC, e], show dealL total ws = [] by simp [dealL, e]]
        have hrc := rright_any (c := c) w hl hx hn
        rw [h3'] at hrc
        clear hx e h3
        go_enter Try.func22, Try.ntmps22
        go_wp2_with (go_at_call 39; refine hrc.mono ?_; rintro e w' ⟨rfl, hw⟩; have hw2 := hw.symm; subst hw2; clear hw hrc)
        go_ret2
        exact ⟨_, rfl, World.ownsRow_nil _ _ _ _, Below.refl _ _⟩
/-- One pair is appended, that lies in the new block ahead of it. -/
structure SR (L gd cd gu cu n : Nat) (ds us : List Int) (vl : Value) (ps : List (Int × Int)) (w wr : World) : Prop where
  below : Below L w wr
  xd : wr.ownsRow L 3 1 (.slice (some ⟨gd, 0, none⟩) n cd) n (ds.map I)
  xu : wr.ownsRow L 3 1 (.slice (some ⟨gu, 0, none⟩) n cu) n (us.map I)
  xl : wr.ownsRow L 38 2 vl ps.length (flatR ps)
  lw : L ≤ w.heap.size
theorem SR.app {L gd cd gu cu n : Nat} {ds us : List Int} {vl v' : Value} {ps : List (Int × Int)} {w wr w2 : World} {a b : Int} (h : SR L gd cd gu cu n ds us vl ps w wr) (h1 : w2.ownsRow L 38 2 v' (ps.length + 1) (flatR (ps ++ [(a, b)]))) (h2 : Grew wr w2 vl v') : SR L gd cd gu cu n ds us v' (ps ++ [(a, b)]) w w2 := by
  have hne : ∀ {gq cq : Nat} {ys : List Int}, wr.ownsRow L 3 1 (.slice (some ⟨gq, 0, none⟩) n cq) n (ys.map I) → w2.ownsRow L 3 1 (.slice (some ⟨gq, 0, none⟩) n cq) n (ys.map I) := fun hu =>
    ownsRow_same hu (fun j hj => h2.g.block j (ownsRow_lt hu hj).2 (fun e => by
      obtain ⟨c1, q1⟩ := ownsRow_type hu hj
      obtain ⟨c2, q2⟩ := ownsRow_type h.xl e.symm
      exact Blk.ne_t q1 q2 (by decide) rfl))
  exact ⟨h.below.trans (h2.below (fun j hj => (ownsRow_lt h.xl hj).1) (Nat.le_trans h.lw h.below.size)), hne h.xd, hne h.xu, by rw [List.length_append]; exact h1, h.lw⟩
set_option maxRecDepth 100000 in
set_option maxHeartbeats 6400000 in
theorem rsplit_any {ao : Option Addr} {n c : Nat} {ws : List Int} (d u : Int) (hdw : IntKind.i64.wrap d = d) (huw : IntKind.i64.wrap u = u) (w : World) (hl : ws.length = n) (hx : FromI w ao ws) (hn : n ≤ maxLen) :
    Calls Try.prog 24 #[.agg #[.int .i64 d, .int .i64 u], .slice ao n c] w fun r w' => ∃ v, r = .returned (.tuple #[v, .int .i64 (splitC d u ws)]) ∧ w'.ownsRow w.heap.size 38 2 v (splitL d u ws).length (flatR (splitL d u ws)) ∧ Below w.heap.size w w' := by
  rw [IntKind.wrap_i64] at hdw huw
  have hB0 : Below w.heap.size w (w.alloc (.cells #[.int .i64 d, .int .i64 u] 38)) := (Below.refl _ _).alloc (Nat.le_refl _) _
  have HB0 : Hid _ := hB0
  have HX0 : Hid (FromI (w.alloc (.cells #[.int .i64 d, .int .i64 u] 38)) ao ws) := FromI.all hx hB0
  have hK0 : Blk (w.alloc (.cells #[.int .i64 d, .int .i64 u] 38)) w.heap.size #[.int .i64 d, .int .i64 u] 38 := heap_alloc_new w _
  have b0 : (w.alloc (.cells #[.int .i64 d, .int .i64 u] 38)).cell? ⟨w.heap.size, 0, none⟩ = some (.int .i64 d) := hK0.cell 0
  have b1 : (w.alloc (.cells #[.int .i64 d, .int .i64 u] 38)).cell? ⟨w.heap.size, 1, none⟩ = some (.int .i64 u) := hK0.cell 1
  clear hx hB0
  by_cases h1 : d < 0
  · have e : okS d u = false := by simp [okS]; omega
    rw [show splitC d u ws = 1 by simp [splitC, e], show splitL d u ws = [] by simp [splitL, e]]
    clear hK0
    go_enter Try.func24, Try.ntmps24
    go_wp2
    go_ret2
    exact ⟨_, rfl, World.ownsRow_nil _ _ _ _, HB0.out⟩
  by_cases h2 : u < 0
  · have e : okS d u = false := by simp [okS]; omega
    rw [show splitC d u ws = 1 by simp [splitC, e], show splitL d u ws = [] by simp [splitL, e]]
    clear hK0
    go_enter Try.func24, Try.ntmps24
    go_wp2
    go_ret2
    exact ⟨_, rfl, World.ownsRow_nil _ _ _ _, HB0.out⟩
  by_cases h3 : 1099511627776 < d
  · have e : okS d u = false := by simp [okS]; omega
    rw [show splitC d u ws = 1 by simp [splitC, e], show splitL d u ws = [] by simp [splitL, e]]
    clear hK0
    go_enter Try.func24, Try.ntmps24
    go_wp2
    go_ret2
    exact ⟨_, rfl, World.ownsRow_nil _ _ _ _, HB0.out⟩
  by_cases h4 : 1099511627776 < u
  · have e : okS d u = false := by simp [okS]; omega
    rw [show splitC d u ws = 1 by simp [splitC, e], show splitL d u ws = [] by simp [splitL, e]]
    clear hK0
    go_enter Try.func24, Try.ntmps24
    go_wp2
    go_ret2
    exact ⟨_, rfl, World.ownsRow_nil _ _ _ _, HB0.out⟩
  have hwa : IntKind.i64.wrap (d + u) = d + u := by rw [IntKind.wrap_i64]; omega
  by_cases h5 : 1099511627776 < d + u
  · have e : okS d u = false := by simp [okS]; omega
    rw [show splitC d u ws = 1 by simp [splitC, e], show splitL d u ws = [] by simp [splitL, e]]
    clear hK0
    go_enter Try.func24, Try.ntmps24
    go_wp2
    go_ret2
    exact ⟨_, rfl, World.ownsRow_nil _ _ _ _, HB0.out⟩
  have e : okS d u = true := by simp [okS]; omega
  rw [show splitC d u ws = dealC d ws by simp [splitC, e], show splitL d u ws = (dealL d ws).zip (dealL u ws) by simp [splitL, e]]
  clear e
  have hd1 := rdeal_any (c := c) d _ hl HX0.out hn
  by_cases hr : rightW ws = true
  · have hod : okD d ws = true := by simp [okD, hr]; omega
    have hou : okD u ws = true := by simp [okD, hr]; omega
    have hdl := dealL_length hod
    have hul := dealL_length hou
    rw [hl] at hdl hul
    have hC := cnt_ok hr
    rw [hl] at hC
    have hp := hC.pos
    have hle := hC.le
    have hcd : dealC d ws = 0 := by simp [dealC, hod]
    have hcu : dealC u ws = 0 := by simp [dealC, hou]
    rw [hcd, hdl] at hd1
    rw [hcd]
    have hzl : ((dealL d ws).zip (dealL u ws)).length = n := by simp; omega
    rw [hzl]
    have HUC : Hid (∀ w1, FromI w1 ao ws → Calls Try.prog 22 #[.int .i64 u, .slice ao n c] w1 fun r w' => ∃ v, r = .returned (.tuple #[v, .int .i64 0]) ∧ w'.ownsRow w1.heap.size 3 1 v n ((dealL u ws).map I) ∧ Below w1.heap.size w1 w') := fun w1 hf => by
      have := rdeal_any (c := c) u w1 hl hf hn
      rwa [hcu, hul] at this
    clear hod hou hC hr hcd hcu
    generalize dealL d ws = ds at *
    generalize dealL u ws = us at *
    have hK1 : ∀ w1, Below (w.alloc (.cells #[.int .i64 d, .int .i64 u] 38)).heap.size (w.alloc (.cells #[.int .i64 d, .int .i64 u] 38)) w1 → w1.cell? ⟨w.heap.size, 1, none⟩ = some (.int .i64 u) := fun w1 hb => (Blk.below hK0 hb hK0.lt).cell 1
    have HK1 : Hid _ := hK1
    clear hK0 hK1
    go_enter Try.func24, Try.ntmps24
    go_wp2_with (first
      | (go_at_call 22; refine hd1.mono ?_; rintro e w1 ⟨v, rfl, hv, hb⟩; obtain ⟨gd, cd, rfl, hcd, _, hLd, hsd, _⟩ := own_form hv hp; have b2 := HK1.out w1 hb; have HV1 : Hid (w1.ownsRow (w.alloc (.cells #[.int .i64 d, .int .i64 u] 38)).heap.size 3 1 (.slice (some ⟨gd, 0, none⟩) n cd) n (ds.map I)) := hv; have HB1 : Hid (Below (w.alloc (.cells #[.int .i64 d, .int .i64 u] 38)).heap.size (w.alloc (.cells #[.int .i64 d, .int .i64 u] 38)) w1) := hb; clear hv hb hd1)
      | fail)
    have HBW : Hid (Below w.heap.size w w1) := HB0.out.trans (HB1.out.mono (by simp))
    go_at_call 22
    refine (HUC.out w1 (FromI.all HX0.out HB1.out)).mono ?_
    rintro e w2 ⟨v, rfl, hv, hb⟩
    obtain ⟨gu, cu, rfl, hcu, _, hLu, hsu, _⟩ := own_form hv hp
    have hS : SR w.heap.size gd cd gu cu n ds us (.slice none 0 0) [] w w2 := by
      have q1 := HBW.out.size
      exact ⟨HBW.out.trans (hb.mono q1), ownsRow_mono (ownsRow_same HV1.out (fun j hj => hb.block j (ownsRow_lt HV1.out hj).2)) (by simp), ownsRow_mono hv q1, World.ownsRow_nil _ _ _ _, Nat.le_refl _⟩
    have HS : Hid _ := hS
    clear hv hb hS HV1 HB1 HBW HUC HK1 HB0 b0 b1 b2 hLu hsu hLd hsd
    go_wp2
    go_loopw [10, 11] (fun vl i wr => ∃ k : Nat, k ≤ n ∧ i = .int .i64 k ∧ Hid (SR w.heap.size gd cd gu cu n ds us vl ((ds.zip us).take k) w wr)) (fun _ i _ => n - (intOf i).toNat)
    case atStart => exact ⟨0, Nat.zero_le _, rfl, HS⟩
    case round =>
      clear HS
      obtain ⟨k, hk, rfl, HS⟩ := hrel
      have hkl : ((ds.zip us).take k).length = k := by simp; omega
      have hS := HS.out
      have hxl := hS.xl
      rw [hkl] at hxl
      obtain ⟨vo, vc, hvl, _⟩ := own_slice hxl
      subst hvl
      clear HS
      have HS : Hid _ := hS
      by_cases hlt : k < n
      · have cd1 := own_at hS.xd hlt
        have cu1 := own_at hS.xu hlt
        have htk : (ds.zip us).take (k + 1) = (ds.zip us).take k ++ [(at0 ds k, at0 us k)] := by
          rw [take_snoc _ k (by omega), List.getElem_zip, at0_lt (by omega), at0_lt (by omega)]
        generalize at0 ds k = zd at *
        generalize at0 us k = zu at *
        have hS1 : SR w.heap.size gd cd gu cu n ds us (.slice vo k vc) ((ds.zip us).take k) w (({ wr with drawn := wr.drawn + 1 } : World)) := ⟨hS.below.drew, ownsRow_same hS.xd (fun _ _ => rfl), ownsRow_same hS.xu (fun _ _ => rfl), ownsRow_same hS.xl (fun _ _ => rfl), hS.lw⟩
        have hxl1 := hS1.xl
        rw [hkl] at hxl1
        obtain ⟨vo2, vc2, w5, hr5, h51, h52, _⟩ := appR hxl1 (Nat.le_trans hS1.lw hS1.below.size) (by omega) zd zu 34
        have hS5 := hS1.app (by rw [hkl]; exact h51) h52
        rw [← htk] at hS5
        have HCA : (({ wr with drawn := wr.drawn + 1 } : World).alloc (.cells #[.int .i64 zd, .int .i64 zu] 38)).cell? ⟨gd, k, none⟩ = some (.int .i64 zd) ∧ (({ wr with drawn := wr.drawn + 1 } : World).alloc (.cells #[.int .i64 zd, .int .i64 zu] 38)).cell? ⟨gu, k, none⟩ = some (.int .i64 zu) := by
          have hb : Below (({ wr with drawn := wr.drawn + 1 } : World)).heap.size (({ wr with drawn := wr.drawn + 1 } : World)) (({ wr with drawn := wr.drawn + 1 } : World).alloc (.cells #[.int .i64 zd, .int .i64 zu] 38)) := (Below.refl _ _).alloc (Nat.le_refl _) _
          exact ⟨(hb.cell (p := ⟨gd, k, none⟩) (World.block_lt_of_cell? wr _ cd1)).trans cd1, (hb.cell (p := ⟨gu, k, none⟩) (World.block_lt_of_cell? wr _ cu1)).trans cu1⟩
        have HC5 : w5.cell? ⟨gd, k, none⟩ = some (.int .i64 zd) ∧ w5.cell? ⟨gu, k, none⟩ = some (.int .i64 zu) := by
          have keep : ∀ {gq cq : Nat} {ys : List Int} {z : Int}, wr.ownsRow w.heap.size 3 1 (.slice (some ⟨gq, 0, none⟩) n cq) n (ys.map I) → wr.cell? ⟨gq, k, none⟩ = some (.int .i64 z) → w5.cell? ⟨gq, k, none⟩ = some (.int .i64 z) := fun {gq cq ys z} hu hc => by
            have hq : w5.heap[gq]? = wr.heap[gq]? := h52.g.block gq (ownsRow_lt hu (g := gq) rfl).2 (fun e => by
              obtain ⟨c1, q1⟩ := ownsRow_type hu (g := gq) rfl
              obtain ⟨c2, q2⟩ := ownsRow_type hxl e.symm
              exact Blk.ne_t q1 q2 (by decide) rfl)
            exact (World.cell?_of_block (w := wr) hq).trans hc
          exact ⟨keep hS.xd cd1, keep hS.xu cu1⟩
        have HS5 : Hid _ := hS5
        clear hS hS1 hxl1 h51 h52 hS5 hxl HS htk
        go_wp2_with fail
        rename_i K hK
        try rw [show ∀ a : Act, a.put none undef = a from fun _ => rfl]
        refine wp_region_mix (fun wq => wq.cell? ⟨gd, k, none⟩ = some (.int .i64 zd) ∧ wq.cell? ⟨gu, k, none⟩ = some (.int .i64 zu)) (fun i => i == 10 || i == 11 || i == 99) 99 (by kernel_rfl) rfl (by kernel_rfl) (by kernel_rfl) (by kernel_rfl) ?_
        refine withFrP (N := 74) rfl ?_
        intro f0 F0 hff
        have e6 : f0 6 = Value.slice (some ⟨gd, 0, none⟩) n cd := hff 6
        have e8 : f0 8 = Value.slice (some ⟨gu, 0, none⟩) n cu := hff 8
        have e10 : f0 10 = Value.slice vo k vc := hff 10
        have e11 : f0 11 = Value.int .i64 (k : Int) := hff 11
        clear hff
        have HCC : (({ wr with drawn := wr.drawn + 1 } : World)).cell? ⟨gd, k, none⟩ = some (.int .i64 zd) ∧ (({ wr with drawn := wr.drawn + 1 } : World)).cell? ⟨gu, k, none⟩ = some (.int .i64 zu) := ⟨cd1, cu1⟩
        refine lyp F0 rfl HCC rfl (by omega) (wanted_none rfl) (v := Value.slice vo k vc) (fun wr hwr => by simp only [execOp, (F0.eval 10 (by omega)).trans (show _ = Value.slice vo k vc from by simp [upd, e6, e8, e10, e11])]; first | rfl | simp [go_sem]) fun F1 => ?_
        refine lyp F1 rfl HCC rfl (by omega) (wanted_none rfl) (v := Value.slice (some ⟨gd, 0, none⟩) n cd) (fun wr hwr => by simp only [execOp, (F1.eval 6 (by omega)).trans (show _ = Value.slice (some ⟨gd, 0, none⟩) n cd from by simp [upd, e6, e8, e10, e11])]; first | rfl | simp [go_sem]) fun F2 => ?_
        refine lyp F2 rfl HCC rfl (by omega) (wanted_none rfl) (v := Value.int .i64 (k : Int)) (fun wr hwr => by simp only [execOp, (F2.eval 11 (by omega)).trans (show _ = Value.int .i64 (k : Int) from by simp [upd, e6, e8, e10, e11])]; first | rfl | simp [go_sem]) fun F3 => ?_
        refine lyp F3 rfl HCC rfl (by omega) (wanted_none rfl) (v := Value.pointer (some ⟨gd, k, none⟩)) (fun wr hwr => by simp only [execOp, (F3.eval 62 (by omega)).trans (show _ = Value.slice (some ⟨gd, 0, none⟩) n cd from by simp [upd, e6, e8, e10, e11]), (F3.eval 63 (by omega)).trans (show _ = Value.int .i64 (k : Int) from by simp [upd, e6, e8, e10, e11])]; simp [go_sem, hlt]) fun F4 => ?_
        refine lyp F4 rfl HCC rfl (by omega) (wanted_none rfl) (v := Value.int .i64 zd) (fun wr hwr => by simp only [execOp, (F4.eval 64 (by omega)).trans (show _ = Value.pointer (some ⟨gd, k, none⟩) from by simp [upd, e6, e8, e10, e11])]; simp [go_sem, hwr.1]) fun F5 => ?_
        refine lyp F5 rfl HCC rfl (by omega) (wanted_none rfl) (v := Value.slice (some ⟨gu, 0, none⟩) n cu) (fun wr hwr => by simp only [execOp, (F5.eval 8 (by omega)).trans (show _ = Value.slice (some ⟨gu, 0, none⟩) n cu from by simp [upd, e6, e8, e10, e11])]; first | rfl | simp [go_sem]) fun F6 => ?_
        refine lyp F6 rfl HCC rfl (by omega) (wanted_none rfl) (v := Value.int .i64 (k : Int)) (fun wr hwr => by simp only [execOp, (F6.eval 11 (by omega)).trans (show _ = Value.int .i64 (k : Int) from by simp [upd, e6, e8, e10, e11])]; first | rfl | simp [go_sem]) fun F7 => ?_
        refine lyp F7 rfl HCC rfl (by omega) (wanted_none rfl) (v := Value.pointer (some ⟨gu, k, none⟩)) (fun wr hwr => by simp only [execOp, (F7.eval 66 (by omega)).trans (show _ = Value.slice (some ⟨gu, 0, none⟩) n cu from by simp [upd, e6, e8, e10, e11]), (F7.eval 67 (by omega)).trans (show _ = Value.int .i64 (k : Int) from by simp [upd, e6, e8, e10, e11])]; simp [go_sem, hlt]) fun F8 => ?_
        refine lyp F8 rfl HCC rfl (by omega) (wanted_none rfl) (v := Value.int .i64 zu) (fun wr hwr => by simp only [execOp, (F8.eval 68 (by omega)).trans (show _ = Value.pointer (some ⟨gu, k, none⟩) from by simp [upd, e6, e8, e10, e11])]; simp [go_sem, hwr.2]) fun F9 => ?_
        refine lyp F9 rfl HCC rfl (by omega) (wanted_none rfl) (v := Value.agg #[.int .i64 zd, .int .i64 zu]) (fun wr hwr => by simp only [execOp, List.map_toArray, List.map_cons, List.map_nil, (F9.eval 65 (by omega)).trans (show _ = Value.int .i64 zd from by simp [upd, e6, e8, e10, e11]), (F9.eval 69 (by omega)).trans (show _ = Value.int .i64 zu from by simp [upd, e6, e8, e10, e11])]; simp [go_sem]) fun F10 => ?_
        refine lep F10 rfl HCC rfl (by omega) (wanted_none rfl) (v := Value.slice (some ⟨(({ wr with drawn := wr.drawn + 1 } : World)).heap.size, 0, none⟩) 1 1) (w1 := (({ wr with drawn := wr.drawn + 1 } : World)).alloc (.cells #[.int .i64 zd, .int .i64 zu] 38)) (by simp only [execOp, List.map_toArray, List.map_cons, List.map_nil, (F10.eval 70 (by omega)).trans (show _ = Value.agg #[.int .i64 zd, .int .i64 zu] from by simp [upd, e6, e8, e10, e11])]; simp [go_sem]) fun F11 => ?_
        refine lep F11 rfl HCA rfl (by omega) (wanted_none rfl) (v := Value.slice vo2 (k + 1) vc2) (w1 := w5) (by simp only [execOp, resolve, invoke, builtin, Sem.run_bind, Sem.run_pure, Result.andThen_ok, List.map_toArray, List.map_cons, List.map_nil, (F11.eval 61 (by omega)).trans (show _ = Value.slice vo k vc from by simp [upd, e6, e8, e10, e11]), (F11.eval 71 (by omega)).trans (show _ = Value.slice (some ⟨(({ wr with drawn := wr.drawn + 1 } : World)).heap.size, 0, none⟩) 1 1 from by simp [upd, e6, e8, e10, e11]), hr5]) fun F12 => ?_
        refine lyp F12 rfl HC5 rfl (by omega) (wanted_none rfl) (v := Value.slice vo2 (k + 1) vc2) (fun wr hwr => by simp only [execOp, (F12.eval 72 (by omega)).trans (show _ = Value.slice vo2 (k + 1) vc2 from by simp [upd, e6, e8, e10, e11])]; first | rfl | simp [go_sem]) fun F13 => ?_
        refine ⟨fun _ => HC5, ?_⟩
        refine hK _ _ ?_
        clear F0 F1 F2 F3 F4 F5 F6 F7 F8 F9 F10 F11 F12 F13 e6 e8 e10 e11 HCC
        simp only [Act.put, List.setIfInBounds_toArray, List.set_cons_succ, List.set_cons_zero]
        clear HCA HC5 hr5 cd1 cu1
        go_wp2
        go_roundw
        case rel => exact ⟨k + 1, by omega, by go_num, HS5⟩
        case measure => simp [intOf]; omega
      · obtain rfl : n = k := by omega
        clear hS hxl
        go_wp2
        go_ret2
        refine ⟨_, rfl, ?_, HS.out.below⟩
        have := HS.out.xl
        rw [List.take_of_length_le (by omega), hzl] at this
        exact this
  · have hr' : rightW ws = false := by simpa using hr
    have hod : okD d ws = false := by simp [okD, hr']
    have hcd : dealC d ws = 1 := by simp [dealC, hod]
    have hdl : dealL d ws = [] := by simp [dealL, hod]
    rw [hcd, hdl] at hd1 ⊢
    clear hod hr hr' hcd hdl hK0
    go_enter Try.func24, Try.ntmps24
    go_wp2_with (first
      | (go_at_call 22; refine hd1.mono ?_; rintro e w1 ⟨v, rfl, hv, hb⟩; have HBW : Hid (Below w.heap.size w w1) := HB0.out.trans (hb.mono (by simp)); clear hv hb hd1)
      | fail)
    go_ret2
    exact ⟨_, rfl, World.ownsRow_nil _ _ _ _, HBW.out⟩
end Go.Proofs.Ytgohjkamikpdcaa
