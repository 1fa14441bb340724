import Derived.Test.YtnphkmdanicemaaGreatDoorZ10
namespace Go.Proofs.YtnphkmdanicemaaGreatDoor
open Go.RowKit Go.PlainAid
set_option linter.unusedVariables false
set_option linter.unusedSimpArgs false
theorem nil25 (ab N cap : Nat) (W : World) : (binOp .eql 25 (.slice (some ⟨ab, 0, none⟩) N cap) (.slice none 0 0)).run Tryz.prog W = .ok (.bool false) W := by
  first | kernel_rfl | simp [go_sem, Tryz.underlying25]
theorem fldR0 (a b : Int) (W : World) : (Instr.field 37 (.agg #[.int .i64 a, .int .i64 b]) 0).run Tryz.prog W = .ok (.int .i64 a) W := by
  first | kernel_rfl | simp [go_sem, Tryz.underlying37]
theorem fldR1 (a b : Int) (W : World) : (Instr.field 37 (.agg #[.int .i64 a, .int .i64 b]) 1).run Tryz.prog W = .ok (.int .i64 b) W := by
  first | kernel_rfl | simp [go_sem, Tryz.underlying37]
set_option maxRecDepth 100000 in
set_option maxHeartbeats 25600000 in
theorem conserves_law {S : Led.Sens} {Ls : Nat} (n dn up : Int) (ao : Option Addr) (nn cv : Nat) (ts : List Tn) (w : World) (hn : i64 n) (hdn : i64 dn) (hup : i64 up) (hts : TurnIn w ao ts) (hok : ∀ c ∈ ts, c.Ok) (hl : ts.length = nn) (hnn : nn ≤ 9223372036854775807) (hS : Led.Sen S Ls w) (hLs : Ls ≤ w.heap.size) :
    Calls Tryz.prog 3 #[.int .i64 n, .int .i64 dn, .int .i64 up, .slice ao nn cv] w fun e w' => e = .returned (.bool true) ∧ Below w.heap.size w w' := by
  obtain ⟨N, hN2, hN8, hwN⟩ := within_nat n 2 8 hn (by decide) (by decide)
  obtain ⟨D, hD0, hD5, hwD⟩ := within_nat dn 0 500 hdn (by decide) (by decide)
  obtain ⟨U, hU0, hU5, hwU⟩ := within_nat up 0 500 hup (by decide) (by decide)
  have HWN : Hid _ := hwN
  have HWD : Hid _ := hwD
  have HWU : Hid _ := hwU
  have HAL : Hid _ := alive_yes w hS hLs
  have HNN : Hid (2 ≤ N ∧ N ≤ 8 ∧ D ≤ 500 ∧ U ≤ 500) := ⟨hN2, hN8, hD5, hU5⟩
  have HTS : Hid (TurnIn w ao ts ∧ (∀ c ∈ ts, c.Ok) ∧ ts.length = nn) := ⟨hts, hok, hl⟩
  have HS0 : Hid (Led.Sen S Ls w ∧ Ls ≤ w.heap.size) := ⟨hS, hLs⟩
  clear hwN hwD hwU hN2 hN8 hD0 hD5 hU0 hU5 hts hok hl hS hLs hn hdn hup
  go_enter Tryz.func3, Tryz.ntmps3
  go_wp2_with fail
  refine Calls.mono HAL.out ?_
  rintro e wa ⟨rfl, hba⟩
  have HBA : Hid (Below w.heap.size w wa) := hba
  clear hba HAL
  go_wp2_with fail
  refine Calls.mono (HWN.out wa) ?_
  rintro e w1 ⟨rfl, hw1⟩
  replace hw1 := hw1.symm
  subst hw1
  go_wp2_with fail
  refine Calls.mono (HWD.out wa) ?_
  rintro e w1 ⟨rfl, hw1⟩
  replace hw1 := hw1.symm
  subst hw1
  go_wp2_with fail
  refine Calls.mono (HWU.out wa) ?_
  rintro e w1 ⟨rfl, hw1⟩
  replace hw1 := hw1.symm
  subst hw1
  have HBG : Hid _ := begun_any (N := N) (D : Int) (U : Int) wa HNN.out.1 HNN.out.2.1 (by omega) (by omega) (by have := HNN.out; omega) (HS0.out.1.below (HBA.out.mono HS0.out.2)) (Nat.le_trans HS0.out.2 HBA.out.size)
  clear HWN HWD HWU
  go_wp2_with fail
  refine Calls.mono HBG.out ?_
  rintro e wb ⟨ab, cap, ps0, rfl, ha0, hst0, hbb⟩
  obtain ⟨L0, hL0⟩ : ∃ L, L = wa.heap.size := ⟨_, rfl⟩
  obtain ⟨nb, hnb⟩ : ∃ b, b = wb.heap.size := ⟨_, rfl⟩
  obtain ⟨X, hX⟩ : ∃ X, X = wb.alloc (.cells #[.int .i64 0, .int .i64 0, .int .i64 0, .int .i64 0, .int .i64 0, .int .i64 0, .int .i64 0, .int .i64 0] 27) := ⟨_, rfl⟩
  have hL0w : w.heap.size ≤ L0 := by rw [hL0]; exact HBA.out.size
  have HR0 : Hid (Rnd L0 N ab cap nb (D : Int) (U : Int) 0 ps0 [0, 0, 0, 0, 0, 0, 0, 0] wa X) := by
    have hbX : Below wb.heap.size wb X := by rw [hX]; exact (Below.refl _ _).alloc (Nat.le_refl _) _
    rw [← hL0] at ha0
    have hLb : L0 ≤ wb.heap.size := by rw [hL0]; exact hbb.size
    have hg : Good N (D : Int) (U : Int) 0 ps0 := hst0.good ha0.len (by have := HNN.out; omega) (by omega) (by omega) (by have := HNN.out; omega)
    refine ⟨⟨ha0.more hbX, by rw [hX, hnb]; exact heap_alloc_new wb _, by rw [hnb]; exact hLb, by rw [hL0] at hLb ⊢; exact hbb.trans (hbX.mono hLb)⟩, hg, rfl, fun i p z hp hz => ?_⟩
    have hz0 : z = 0 := by
      have := List.mem_of_getElem? hz
      simpa using this
    subst hz0
    refine ⟨Int.le_refl _, Int.le_refl _, fun hh => absurd ?_ hh⟩
    rw [(hst0 i p hp).1]
    rfl
  have HLW : Hid (w.heap.size ≤ L0 ∧ L0 = wa.heap.size ∧ Below w.heap.size w wa) := ⟨hL0w, hL0, HBA.out⟩
  clear ha0 hst0 hbb hL0w hL0 HBA HBG
  have hnil := nil25 ab N cap wb
  go_upto_region 9 with fail
  rw [← hX, ← hnb]
  clear hX hnb hnil
  go_wp2
  go_loopw [12] (fun s12 wr => ∃ (t : Nat) (ps : List Pl) (ns : List Int), t ≤ 200 ∧ s12 = .int .i64 (t : Int) ∧ Hid (Rnd L0 N ab cap nb (D : Int) (U : Int) t ps ns wa wr)) (fun s12 _ => 200 - (intOf s12).toNat)
  case atStart => exact ⟨0, ps0, _, by decide, rfl, HR0⟩
  case round =>
    clear HR0
    obtain ⟨t, ps, ns, ht, rfl, HR⟩ := hrel
    have HBW : Hid (Below w.heap.size w wr) := HLW.out.2.2.trans (HR.out.r.bel.mono HLW.out.1)
    by_cases hlt : t < nn ∧ t < 200
    · obtain ⟨hlt1, hlt2⟩ := hlt
      have hlt1' : (t : Int) < (nn : Int) := by omega
      have hlt2' : (t : Int) < 200 := by omega
      obtain ⟨c, hc⟩ : ∃ c, ts[t]? = some c := ⟨_, List.getElem?_eq_getElem (by rw [HTS.out.2.2]; exact hlt1)⟩
      obtain ⟨b, o, rfl, hbw, hcell⟩ := HTS.out.1 t c hc
      have hcc : ∀ (j : Nat) (v : Value), c.row[j]? = some v → wr.cell? ⟨b, o + t * 4 + j, none⟩ = some v := fun j v hv => (HBW.out.cell (p := ⟨b, o + t * 4 + j, none⟩) hbw).trans (hcell j v hv)
      have hcok := HTS.out.2.1 c (List.mem_of_getElem? hc)
      obtain ⟨tk, tw, td, tu⟩ := c
      obtain ⟨ok1, ok2, ok3, ok4⟩ := hcok
      have a0 : wr.cell? ⟨b, o + t * 4, none⟩ = some (.int .i64 tk) := hcc 0 _ rfl
      have a1 : wr.cell? ⟨b, o + t * 4 + 1, none⟩ = some (.int .i64 tw) := hcc 1 _ rfl
      have a2 : wr.cell? ⟨b, o + t * 4 + 2, none⟩ = some (.int .i64 td) := hcc 2 _ rfl
      have a3 : wr.cell? ⟨b, o + t * 4 + 3, none⟩ = some (.int .i64 tu) := hcc 3 _ rfl
      obtain ⟨tb, htb⟩ : ∃ b, b = wr.heap.size := ⟨_, rfl⟩
      obtain ⟨Y, hY⟩ : ∃ X, X = wr.alloc (.cells #[.int .i64 tk, .int .i64 tw, .int .i64 td, .int .i64 tu] 29) := ⟨_, rfl⟩
      have hbY : Below wr.heap.size wr Y := by rw [hY]; exact (Below.refl _ _).alloc (Nat.le_refl _) _
      have HBT : Hid (Blk Y tb #[.int .i64 tk, .int .i64 tw, .int .i64 td, .int .i64 tu] 29) := by
        have : Blk Y tb #[.int .i64 tk, .int .i64 tw, .int .i64 td, .int .i64 tu] 29 := by rw [hY, htb]; exact heap_alloc_new wr _
        exact this
      have HRY : Hid (Rnd L0 N ab cap nb (D : Int) (U : Int) t ps ns wa Y) := HR.out.more hbY
      have HTY : Hid (¬ ownL ps tb ∧ tb ≠ nb) := ⟨fun ⟨i, p, hp, hk⟩ => (HRY.out.r.all.pls.all i p hp).notT HBT.out (by decide) (by decide) (by decide) hk, Blk.ne_t HBT.out HRY.out.r.box (by decide)⟩
      clear hcc hcell hc hbY
      go_upto_region 13 with fail
      rw [← hY, ← htb]
      clear hY htb a0 a1 a2 a3 HR HBW hbw
      have b1 : Y.cell? ⟨tb, 1, none⟩ = some (.int .i64 tw) := HBT.out.cell 1
      have b0 : Y.cell? ⟨tb, 0, none⟩ = some (.int .i64 tk) := HBT.out.cell 0
      have hw1 : IntKind.i64.wrap ((N : Int) - 1) = ((N - 1 : Nat) : Int) := by have := HNN.out; rw [IntKind.wrap_i64]; omega
      obtain ⟨i, hi0, hi1, hwi⟩ := within_nat tw 0 (N - 1) ok2 (by omega) (by have := HNN.out; omega)
      have HWI : Hid _ := hwi
      have hiN : i < N := by have := HNN.out; omega
      clear hwi hi0 hi1
      go_wp2_with fail
      refine Calls.mono (HWI.out Y) ?_
      rintro e w1 ⟨rfl, hw9⟩
      replace hw9 := hw9.symm
      subst hw9
      obtain ⟨kd, hk0, hk2, hwk⟩ := within_nat tk 0 2 ok1 (by decide) (by decide)
      have HWK : Hid _ := hwk
      clear hwk hk0 HWI hw1 b1
      go_wp2_with fail
      refine Calls.mono (HWK.out Y) ?_
      rintro e w1 ⟨rfl, hw9⟩
      replace hw9 := hw9.symm
      subst hw9
      obtain ⟨p, hp⟩ : ∃ p, ps[i]? = some p := ⟨_, List.getElem?_eq_getElem (by rw [HRY.out.good.len]; exact hiN)⟩
      obtain ⟨z, hz⟩ : ∃ z, ns[i]? = some z := ⟨_, List.getElem?_eq_getElem (by rw [HRY.out.nds.nl]; have := HNN.out; omega)⟩
      have HP : Hid (ps[i]? = some p) := hp
      have HZ : Hid (ns[i]? = some z) := hz
      have hzn := HRY.out.nds.nn i p z hp hz
      have HZN : Hid (0 ≤ z ∧ z ≤ (t : Int)) := ⟨hzn.1, hzn.2.1⟩
      have HSY : Hid (Led.Sen S Ls Y) := HS0.out.1.below ((HLW.out.2.2.trans (HRY.out.r.bel.mono HLW.out.1)).mono HS0.out.2)
      clear hp hz hzn b0 HWK
      rcases (show kd = 0 ∨ kd = 1 ∨ kd = 2 by omega) with rfl | rfl | rfl
      · obtain ⟨d9, _, hd9, hwd9⟩ := within_nat td 0 300 ok3 (by decide) (by decide)
        obtain ⟨u9, _, hu9, hwu9⟩ := within_nat tu 0 300 ok4 (by decide) (by decide)
        have HW1 : Hid _ := hwd9
        have HW2 : Hid _ := hwu9
        clear hwd9 hwu9
        go_wp2_with fail
        rename_i KK hK
        try rw [show ∀ a : Act, a.put none undef = a from fun _ => rfl]
        have hrest : ∀ (a : Act) (w3 : World), Gs p.gb p.mb (i : Int) N (needN K1 (d9 : Int) (u9 : Int) p.L) w3 → Chg (fun b => b = p.mb) Y w3 → KK a w3 → KK a w3 := fun _ _ _ _ h => h
        clear hrest
        refine wp_region_mix (fun wq => Blk wq tb #[.int .i64 tk, .int .i64 tw, .int .i64 td, .int .i64 tu] 29 ∧ wq.cell? ⟨ab, i * 3, none⟩ = some (.pointer (some ⟨p.gb, 0, none⟩))) (fun i => i == 7 || i == 10 || i == 12 || i == 99) 99 (by kernel_rfl) rfl (by kernel_rfl) (by kernel_rfl) (by kernel_rfl) ?_
        refine withFrP (N := 139) rfl ?_
        intro f0 F0 hff
        have ee10 : f0 10 = Value.slice (some ⟨ab, 0, none⟩) N cap := hff 10
        have ee13 : f0 13 = Value.pointer (some ⟨tb, 0, none⟩) := hff 13
        have ee14 : f0 14 = Value.int .i64 (i : Int) := hff 14
        clear hff
        have HCC : (fun wq => Blk wq tb #[.int .i64 tk, .int .i64 tw, .int .i64 td, .int .i64 tu] 29 ∧ wq.cell? ⟨ab, i * 3, none⟩ = some (.pointer (some ⟨p.gb, 0, none⟩))) (({ Y with drawn := Y.drawn + 1 } : World)) := ⟨HBT.out, (HRY.out.r.all.cells HP.out).1⟩
        refine lyp F0 rfl HCC rfl (by omega) (wanted_none rfl) (v := Value.slice (some ⟨ab, 0, none⟩) N cap) (fun wr hwr => by simp only [execOp, (F0.eval 10 (by omega)).trans (show _ = Value.slice (some ⟨ab, 0, none⟩) N cap from by simp [upd, ee10, ee13, ee14])]; first | rfl | simp [go_sem]) fun F1 => ?_
        refine lyp F1 rfl HCC rfl (by omega) (wanted_none rfl) (v := Value.int .i64 (i : Int)) (fun wr hwr => by simp only [execOp, (F1.eval 14 (by omega)).trans (show _ = Value.int .i64 (i : Int) from by simp [upd, ee10, ee13, ee14])]; first | rfl | simp [go_sem]) fun F2 => ?_
        refine lyp F2 rfl HCC rfl (by omega) (wanted_none rfl) (v := Value.pointer (some ⟨ab, i * 3, none⟩)) (fun wr hwr => by simp only [execOp, (F2.eval 61 (by omega)).trans (show _ = Value.slice (some ⟨ab, 0, none⟩) N cap from by simp [upd, ee10, ee13, ee14]), (F2.eval 62 (by omega)).trans (show _ = Value.int .i64 (i : Int) from by simp [upd, ee10, ee13, ee14])]; simp [go_sem, hiN]) fun F3 => ?_
        refine lyp F3 rfl HCC rfl (by omega) (wanted_none rfl) (v := Value.pointer (some ⟨ab, i * 3, none⟩)) (fun wr hwr => by simp only [execOp, (F3.eval 63 (by omega)).trans (show _ = Value.pointer (some ⟨ab, i * 3, none⟩) from by simp [upd, ee10, ee13, ee14])]; simp [go_sem]) fun F4 => ?_
        refine lyp F4 rfl HCC rfl (by omega) (wanted_none rfl) (v := Value.pointer (some ⟨p.gb, 0, none⟩)) (fun wr hwr => by simp only [execOp, (F4.eval 64 (by omega)).trans (show _ = Value.pointer (some ⟨ab, i * 3, none⟩) from by simp [upd, ee10, ee13, ee14])]; simp [go_sem, hwr.2]) fun F5 => ?_
        refine lyp F5 rfl HCC rfl (by omega) (wanted_none rfl) (v := Value.pointer (some ⟨tb, 2, none⟩)) (fun wr hwr => by simp only [execOp, (F5.eval 13 (by omega)).trans (show _ = Value.pointer (some ⟨tb, 0, none⟩) from by simp [upd, ee10, ee13, ee14])]; simp [go_sem]) fun F6 => ?_
        refine lyp F6 rfl HCC rfl (by omega) (wanted_none rfl) (v := Value.int .i64 td) (fun wr hwr => by simp only [execOp, (F6.eval 66 (by omega)).trans (show _ = Value.pointer (some ⟨tb, 2, none⟩) from by simp [upd, ee10, ee13, ee14])]; simp [go_sem, show wr.cell? ⟨tb, 2, none⟩ = some (.int .i64 td) from hwr.1.cell 2]) fun F7 => ?_
        refine lcp F7 rfl HCC rfl (by omega) (wanted_none rfl) (g := 6) (args := #[Value.int .i64 td, Value.int .i64 0, Value.int .i64 300]) (by simp only [execOp, resolve, invoke, List.map_toArray, List.map_cons, List.map_nil, (F7.eval 67 (by omega)).trans (show _ = Value.int .i64 td from by simp [upd, ee10, ee13, ee14])]; simp [go_sem, Act.eval]) (HW1.out _) ?_
        rintro e9 w68 ⟨rfl, hw68⟩
        refine ⟨_, rfl, fun F8 => ?_⟩
        have HC68 : (fun wq => Blk wq tb #[.int .i64 tk, .int .i64 tw, .int .i64 td, .int .i64 tu] 29 ∧ wq.cell? ⟨ab, i * 3, none⟩ = some (.pointer (some ⟨p.gb, 0, none⟩))) w68 := by rw [hw68]; exact HCC
        refine lyp F8 rfl HC68 rfl (by omega) (wanted_none rfl) (v := Value.pointer (some ⟨tb, 3, none⟩)) (fun wr hwr => by simp only [execOp, (F8.eval 13 (by omega)).trans (show _ = Value.pointer (some ⟨tb, 0, none⟩) from by simp [upd, ee10, ee13, ee14])]; simp [go_sem]) fun F9 => ?_
        refine lyp F9 rfl HC68 rfl (by omega) (wanted_none rfl) (v := Value.int .i64 tu) (fun wr hwr => by simp only [execOp, (F9.eval 69 (by omega)).trans (show _ = Value.pointer (some ⟨tb, 3, none⟩) from by simp [upd, ee10, ee13, ee14])]; simp [go_sem, show wr.cell? ⟨tb, 3, none⟩ = some (.int .i64 tu) from hwr.1.cell 3]) fun F10 => ?_
        refine lcp F10 rfl HC68 rfl (by omega) (wanted_none rfl) (g := 6) (args := #[Value.int .i64 tu, Value.int .i64 0, Value.int .i64 300]) (by simp only [execOp, resolve, invoke, List.map_toArray, List.map_cons, List.map_nil, (F10.eval 70 (by omega)).trans (show _ = Value.int .i64 tu from by simp [upd, ee10, ee13, ee14])]; simp [go_sem, Act.eval]) (HW2.out _) ?_
        rintro e9 w71 ⟨rfl, hw71⟩
        refine ⟨_, rfl, fun F11 => ?_⟩
        have HC71 : (fun wq => Blk wq tb #[.int .i64 tk, .int .i64 tw, .int .i64 td, .int .i64 tu] 29 ∧ wq.cell? ⟨ab, i * 3, none⟩ = some (.pointer (some ⟨p.gb, 0, none⟩))) w71 := by rw [hw71]; exact HC68
        refine lyp F11 rfl HC71 rfl (by omega) (wanted_none rfl) (v := Value.agg #[.int .i64 (d9 : Int), .int .i64 (u9 : Int)]) (fun wr hwr => by simp only [execOp, (F11.eval 68 (by omega)).trans (show _ = Value.int .i64 (d9 : Int) from by simp [upd, ee10, ee13, ee14]), (F11.eval 71 (by omega)).trans (show _ = Value.int .i64 (u9 : Int) from by simp [upd, ee10, ee13, ee14])]; simp [go_sem, zero36]; try rfl) fun F12 => ?_
        have HGW : Gs p.gb p.mb (i : Int) N p.L w71 := by rw [hw71, hw68]; exact (HRY.out.r.all.pls.all i p HP.out).gs.more (show Below Y.heap.size Y (({ Y with drawn := Y.drawn + 1 } : World)) from Below.drew (Below.refl _ _))
        refine lcp F12 rfl HC71 rfl (by omega) (wanted_none rfl) (g := 8) (args := #[Value.pointer (some ⟨p.gb, 0, none⟩), Value.string ⟨#[107]⟩, Value.agg #[.int .i64 (d9 : Int), .int .i64 (u9 : Int)]]) (by simp only [execOp, resolve, invoke, List.map_toArray, List.map_cons, List.map_nil, (F12.eval 65 (by omega)).trans (show _ = Value.pointer (some ⟨p.gb, 0, none⟩) from by simp [upd, ee10, ee13, ee14]), (F12.eval 72 (by omega)).trans (show _ = Value.agg #[.int .i64 (d9 : Int), .int .i64 (u9 : Int)] from by simp [upd, ee10, ee13, ee14])]; simp [go_sem, Act.eval]) (need_any K1 (d9 : Int) (u9 : Int) _ HGW (by decide)) ?_
        rintro e9 w3 ⟨rfl, hg3, hc3⟩
        refine ⟨_, rfl, fun F13 => ?_⟩
        have hcY : Chg (fun b => b = p.mb) Y w3 := by
          have e1 : w71 = (({ Y with drawn := Y.drawn + 1 } : World)) := by rw [hw71, hw68]
          have hc3' := hc3
          rw [e1] at hc3'
          exact (Chg.ofBelow (fun b => b = p.mb) (show Below Y.heap.size Y (({ Y with drawn := Y.drawn + 1 } : World)) from Below.drew (Below.refl _ _))).trans hc3' (fun _ _ e => e)
        have HR3 : Hid (Rn0 L0 N ab cap nb (ps.set i { p with L := needN K1 (d9 : Int) (u9 : Int) p.L }) ns wa w3) := HRY.out.r.upd (hcY.mono (B := ownL ps) fun _ _ e => ⟨i, p, HP.out, .inr (.inl e)⟩) (HRY.out.r.all.setL HP.out hg3 hcY)
        have HC3 : (fun wq => Blk wq tb #[.int .i64 tk, .int .i64 tw, .int .i64 td, .int .i64 tu] 29 ∧ wq.cell? ⟨ab, i * 3, none⟩ = some (.pointer (some ⟨p.gb, 0, none⟩))) w3 := ⟨hc3.blk HC71.1 (HGW.map.ne_b HC71.1), (HR3.out.all.cells (show (ps.set i { p with L := needN K1 (d9 : Int) (u9 : Int) p.L })[i]? = some { p with L := needN K1 (d9 : Int) (u9 : Int) p.L } from by rw [List.getElem?_set, if_pos rfl, if_pos (by rw [HRY.out.good.len]; exact hiN)])).1⟩
        refine ⟨fun _ => HC3, ?_⟩
        refine hK _ _ ?_
        clear F0 F1 F2 F3 F4 F5 F6 F7 F8 F9 F10 F11 F12 F13 ee10 ee13 ee14 HCC HC68 HC71 HC3 HGW hg3 hc3 hcY hw68 hw71 HW1 HW2
        simp only [Act.put, List.setIfInBounds_toArray, List.set_cons_succ, List.set_cons_zero]
        have cz := HR3.out.cell HZ.out
        have fz : w3.frozen? ⟨nb, i, none⟩ = false := HR3.out.box.frozen i
        have hzw : IntKind.i64.wrap (z + 1) = z + 1 := by rw [IntKind.wrap_i64]; have := HZN.out; omega
        have hi8 : i < 8 := by have := HNN.out; omega
        obtain ⟨w6, hw6⟩ : ∃ X, X = w3.setCell ⟨nb, i, none⟩ (.int .i64 (z + 1)) := ⟨_, rfl⟩
        obtain ⟨ps2, hps2⟩ : ∃ q, q = ps.set i { p with L := needN K1 (d9 : Int) (u9 : Int) p.L } := ⟨_, rfl⟩
        have HQ : Hid (Rnd L0 N ab cap nb (D : Int) (U : Int) (t + 1) ps2 (ns.set i (z + 1)) wa w6) := by
          rw [hps2]
          exact ⟨by rw [hw6]; exact HR3.out.setN i (z + 1), (HRY.out.good.set (p' := { p with L := needN K1 (d9 : Int) (u9 : Int) p.L }) HP.out (lkOk_need (HRY.out.good.lk i p HP.out) (by omega) (by omega)).1 rfl (HRY.out.good.vw i p HP.out)).mono (Nat.le_succ t), HRY.out.nds.need HP.out HZ.out⟩
        clear HR3 HRY HBT HTY HP HZ HZN HSY hps2
        go_upto_region 26 with fail
        rw [← hw6]
        clear hw6 cz fz hzw hi8
        go_wp2
        have HSM : Hid ((∀ a ∈ ps2, 0 ≤ a.s.d) ∧ (∀ a ∈ ps2, 0 ≤ a.s.u)) := HQ.out.good.nd
        obtain ⟨y, hy⟩ : ∃ y, (ns.set i (z + 1))[i]? = some y := ⟨_, List.getElem?_eq_getElem (by rw [HQ.out.nds.nl]; have := HNN.out; omega)⟩
        obtain ⟨p9, hp9⟩ : ∃ q, (ps2)[i]? = some q := ⟨_, List.getElem?_eq_getElem (by rw [HQ.out.good.len]; exact hiN)⟩
        have hy0 : ¬ y < 0 := by have := (HQ.out.nds.nn i p9 y hp9 hy).1; omega
        have HY : Hid ((ns.set i (z + 1))[i]? = some y) := hy
        clear hy hp9 p9
        go_loopw [17, 18, 19] (fun s17 s18 s19 wq => ∃ (k : Nat), k ≤ N ∧ s17 = .int .i64 (sumTo (fun p => p.s.d) k (ps2)) ∧ s18 = .int .i64 (sumTo (fun p => p.s.u) k (ps2)) ∧ s19 = .int .i64 (k : Int) ∧ Hid (Rnd L0 N ab cap nb (D : Int) (U : Int) (t + 1) (ps2) (ns.set i (z + 1)) wa wq)) (fun _ _ s19 _ => N - (intOf s19).toNat)
        case atStart => exact ⟨0, Nat.zero_le _, rfl, rfl, rfl, HQ⟩
        case round =>
          clear HQ
          obtain ⟨k, hk, rfl, rfl, rfl, HQ⟩ := hrel
          have hN8 : N ≤ 8 := HNN.out.2.1
          by_cases hkN : k < N
          · have hkN' : (k : Int) < (N : Int) := by omega
            obtain ⟨q, hq⟩ : ∃ q, (ps2)[k]? = some q := ⟨_, List.getElem?_eq_getElem (by rw [HQ.out.good.len]; exact hkN)⟩
            obtain ⟨d0, d1, d2⟩ := HQ.out.r.all.cells hq
            have HQK : Hid ((ps2)[k]? = some q) := hq
            have hsd := sumTo_step (fun p : Pl => p.s.d) hq
            have hsu := sumTo_step (fun p : Pl => p.s.u) hq
            have l1 := sumTo_le (fun p : Pl => p.s.d) (k + 1) (ps2) HSM.out.1
            have l2 := sumTo_le (fun p : Pl => p.s.u) (k + 1) (ps2) HSM.out.2
            rw [HQ.out.good.sd] at l1
            rw [HQ.out.good.su] at l2
            obtain ⟨g1, hg1⟩ : ∃ g, g = q.s.d := ⟨_, rfl⟩
            obtain ⟨g2, hg2⟩ : ∃ g, g = q.s.u := ⟨_, rfl⟩
            obtain ⟨S1, hS1⟩ : ∃ g, g = sumTo (fun p => p.s.d) k (ps2) := ⟨_, rfl⟩
            obtain ⟨S2, hS2⟩ : ∃ g, g = sumTo (fun p => p.s.u) k (ps2) := ⟨_, rfl⟩
            have hsd' : sumTo (fun p : Pl => p.s.d) (k + 1) (ps2) = S1 + g1 := by rw [hS1, hg1]; exact hsd
            have hsu' : sumTo (fun p : Pl => p.s.u) (k + 1) (ps2) = S2 + g2 := by rw [hS2, hg2]; exact hsu
            have v1 : IntKind.i64.wrap (S1 + g1) = S1 + g1 := by rw [IntKind.wrap_i64]; rw [hsd'] at l1; have := HNN.out; omega
            have v2 : IntKind.i64.wrap (S2 + g2) = S2 + g2 := by rw [IntKind.wrap_i64]; rw [hsu'] at l2; have := HNN.out; omega
            have HSD : Hid (sumTo (fun p : Pl => p.s.d) (k + 1) (ps2) = S1 + g1) := hsd'
            have HSU : Hid (sumTo (fun p : Pl => p.s.u) (k + 1) (ps2) = S2 + g2) := hsu'
            have HRI : Hid (∀ W, Blk W q.lb q.s.cs 82 → Calls Tryz.prog 11 #[.pointer (some ⟨q.lb, 0, none⟩)] W fun r w' => r = .returned (.agg #[.int .i64 g1, .int .i64 g2]) ∧ Below W.heap.size W w') := fun W a => by rw [hg1, hg2]; exact Led.rights_any W a
            rw [← hS1, ← hS2]
            clear hq hsd hsu l1 l2 hg1 hg2 hS1 hS2 hsd' hsu' d0 d2
            go_wp2_with fail
            refine Calls.mono (HRI.out _ (HQ.out.r.all.pls.all k q HQK.out).ld) ?_
            rintro e w5 ⟨rfl, hb5⟩
            have hf0 := fldR0 g1 g2 w5
            have HQ5 : Hid (Rnd L0 N ab cap nb (D : Int) (U : Int) (t + 1) (ps2) (ns.set i (z + 1)) wa w5) := HQ.out.more hb5
            clear hb5 HQ d1
            obtain ⟨d0, d1, d2⟩ := HQ5.out.r.all.cells HQK.out
            clear d0 d2
            go_wp2_with fail
            refine Calls.mono (HRI.out _ (HQ5.out.r.all.pls.all k q HQK.out).ld) ?_
            rintro e w6 ⟨rfl, hb6⟩
            have hf1 := fldR1 g1 g2 w6
            have HQ6 : Hid (Rnd L0 N ab cap nb (D : Int) (U : Int) (t + 1) (ps2) (ns.set i (z + 1)) wa w6) := HQ5.out.more hb6
            clear hb6 HQ5 d1 HRI
            go_wp2
            go_roundw
            case rel => exact ⟨k + 1, by omega, by rw [HSD.out], by rw [HSU.out], by go_num, HQ6⟩
            case measure => simp [intOf]; omega
          · obtain rfl : k = N := by omega
            have e1 : sumTo (fun p : Pl => p.s.d) k (ps2) = (D : Int) := by unfold sumTo; rw [List.take_of_length_le (by rw [HQ.out.good.len]; exact Nat.le_refl _)]; exact HQ.out.good.sd
            have e2 : sumTo (fun p : Pl => p.s.u) k (ps2) = (U : Int) := by unfold sumTo; rw [List.take_of_length_le (by rw [HQ.out.good.len]; exact Nat.le_refl _)]; exact HQ.out.good.su
            rw [e1, e2]
            have cz := HQ.out.r.cell HY.out
            have hi8 : i < 8 := by omega
            clear e1 e2 hkN
            go_wp2
            go_roundw
            case rel => exact ⟨t + 1, _, _, by omega, by go_num, HQ⟩
            case measure => simp [intOf]; omega
      · have HAS : Hid _ := asks_any Y HRY.out.r.all HRY.out.good HP.out (by have := HNN.out; omega) HNN.out.1 HNN.out.2.1 HSY.out (Nat.le_trans HS0.out.2 HLW.out.1) (Nat.le_of_lt (Nat.lt_of_le_of_lt HRY.out.r.all.ablt.1 HRY.out.r.all.ablt.2))
        go_wp2_with fail
        refine Calls.mono HAS.out ?_
        rintro e w5 ⟨asked, ps2, rfl, ha5, hc5, hap⟩
        have hnd := HRY.out.nds.ask HP.out HZ.out (HRY.out.good.lk i p HP.out) rfl rfl (HRY.out.good.ld i p HP.out) hap
        have HG5 : Hid (Good N (D : Int) (U : Int) (t + 1) ps2) := (HRY.out.good.ask HP.out (by have := HNN.out; omega) (byd_nn _ _) (byd_nn _ _) hap).mono (Nat.le_succ t)
        have HR5 : Hid (Rn0 L0 N ab cap nb ps2 ns wa w5) := HRY.out.r.upd hc5 ha5
        cases asked with
        | false =>
          have HQ : Hid (Rnd L0 N ab cap nb (D : Int) (U : Int) (t + 1) ps2 ns wa w5) := ⟨HR5.out, HG5.out, by have := hnd.1; rw [if_neg (by decide)] at this; exact this.mono (Nat.le_succ t)⟩
          clear ha5 hc5 hap hnd HG5 HR5 HAS HRY HBT HTY HP HZ HZN HSY
          go_wp2
          have HSM : Hid ((∀ a ∈ ps2, 0 ≤ a.s.d) ∧ (∀ a ∈ ps2, 0 ≤ a.s.u)) := HQ.out.good.nd
          obtain ⟨y, hy⟩ : ∃ y, (ns)[i]? = some y := ⟨_, List.getElem?_eq_getElem (by rw [HQ.out.nds.nl]; have := HNN.out; omega)⟩
          obtain ⟨p9, hp9⟩ : ∃ q, (ps2)[i]? = some q := ⟨_, List.getElem?_eq_getElem (by rw [HQ.out.good.len]; exact hiN)⟩
          have hy0 : ¬ y < 0 := by have := (HQ.out.nds.nn i p9 y hp9 hy).1; omega
          have HY : Hid ((ns)[i]? = some y) := hy
          clear hy hp9 p9
          go_loopw [17, 18, 19] (fun s17 s18 s19 wq => ∃ (k : Nat), k ≤ N ∧ s17 = .int .i64 (sumTo (fun p => p.s.d) k (ps2)) ∧ s18 = .int .i64 (sumTo (fun p => p.s.u) k (ps2)) ∧ s19 = .int .i64 (k : Int) ∧ Hid (Rnd L0 N ab cap nb (D : Int) (U : Int) (t + 1) (ps2) (ns) wa wq)) (fun _ _ s19 _ => N - (intOf s19).toNat)
          case atStart => exact ⟨0, Nat.zero_le _, rfl, rfl, rfl, HQ⟩
          case round =>
            clear HQ
            obtain ⟨k, hk, rfl, rfl, rfl, HQ⟩ := hrel
            have hN8 : N ≤ 8 := HNN.out.2.1
            by_cases hkN : k < N
            · have hkN' : (k : Int) < (N : Int) := by omega
              obtain ⟨q, hq⟩ : ∃ q, (ps2)[k]? = some q := ⟨_, List.getElem?_eq_getElem (by rw [HQ.out.good.len]; exact hkN)⟩
              obtain ⟨d0, d1, d2⟩ := HQ.out.r.all.cells hq
              have HQK : Hid ((ps2)[k]? = some q) := hq
              have hsd := sumTo_step (fun p : Pl => p.s.d) hq
              have hsu := sumTo_step (fun p : Pl => p.s.u) hq
              have l1 := sumTo_le (fun p : Pl => p.s.d) (k + 1) (ps2) HSM.out.1
              have l2 := sumTo_le (fun p : Pl => p.s.u) (k + 1) (ps2) HSM.out.2
              rw [HQ.out.good.sd] at l1
              rw [HQ.out.good.su] at l2
              obtain ⟨g1, hg1⟩ : ∃ g, g = q.s.d := ⟨_, rfl⟩
              obtain ⟨g2, hg2⟩ : ∃ g, g = q.s.u := ⟨_, rfl⟩
              obtain ⟨S1, hS1⟩ : ∃ g, g = sumTo (fun p => p.s.d) k (ps2) := ⟨_, rfl⟩
              obtain ⟨S2, hS2⟩ : ∃ g, g = sumTo (fun p => p.s.u) k (ps2) := ⟨_, rfl⟩
              have hsd' : sumTo (fun p : Pl => p.s.d) (k + 1) (ps2) = S1 + g1 := by rw [hS1, hg1]; exact hsd
              have hsu' : sumTo (fun p : Pl => p.s.u) (k + 1) (ps2) = S2 + g2 := by rw [hS2, hg2]; exact hsu
              have v1 : IntKind.i64.wrap (S1 + g1) = S1 + g1 := by rw [IntKind.wrap_i64]; rw [hsd'] at l1; have := HNN.out; omega
              have v2 : IntKind.i64.wrap (S2 + g2) = S2 + g2 := by rw [IntKind.wrap_i64]; rw [hsu'] at l2; have := HNN.out; omega
              have HSD : Hid (sumTo (fun p : Pl => p.s.d) (k + 1) (ps2) = S1 + g1) := hsd'
              have HSU : Hid (sumTo (fun p : Pl => p.s.u) (k + 1) (ps2) = S2 + g2) := hsu'
              have HRI : Hid (∀ W, Blk W q.lb q.s.cs 82 → Calls Tryz.prog 11 #[.pointer (some ⟨q.lb, 0, none⟩)] W fun r w' => r = .returned (.agg #[.int .i64 g1, .int .i64 g2]) ∧ Below W.heap.size W w') := fun W a => by rw [hg1, hg2]; exact Led.rights_any W a
              rw [← hS1, ← hS2]
              clear hq hsd hsu l1 l2 hg1 hg2 hS1 hS2 hsd' hsu' d0 d2
              go_wp2_with fail
              refine Calls.mono (HRI.out _ (HQ.out.r.all.pls.all k q HQK.out).ld) ?_
              rintro e w5 ⟨rfl, hb5⟩
              have hf0 := fldR0 g1 g2 w5
              have HQ5 : Hid (Rnd L0 N ab cap nb (D : Int) (U : Int) (t + 1) (ps2) (ns) wa w5) := HQ.out.more hb5
              clear hb5 HQ d1
              obtain ⟨d0, d1, d2⟩ := HQ5.out.r.all.cells HQK.out
              clear d0 d2
              go_wp2_with fail
              refine Calls.mono (HRI.out _ (HQ5.out.r.all.pls.all k q HQK.out).ld) ?_
              rintro e w6 ⟨rfl, hb6⟩
              have hf1 := fldR1 g1 g2 w6
              have HQ6 : Hid (Rnd L0 N ab cap nb (D : Int) (U : Int) (t + 1) (ps2) (ns) wa w6) := HQ5.out.more hb6
              clear hb6 HQ5 d1 HRI
              go_wp2
              go_roundw
              case rel => exact ⟨k + 1, by omega, by rw [HSD.out], by rw [HSU.out], by go_num, HQ6⟩
              case measure => simp [intOf]; omega
            · obtain rfl : k = N := by omega
              have e1 : sumTo (fun p : Pl => p.s.d) k (ps2) = (D : Int) := by unfold sumTo; rw [List.take_of_length_le (by rw [HQ.out.good.len]; exact Nat.le_refl _)]; exact HQ.out.good.sd
              have e2 : sumTo (fun p : Pl => p.s.u) k (ps2) = (U : Int) := by unfold sumTo; rw [List.take_of_length_le (by rw [HQ.out.good.len]; exact Nat.le_refl _)]; exact HQ.out.good.su
              rw [e1, e2]
              have cz := HQ.out.r.cell HY.out
              have hi8 : i < 8 := by omega
              clear e1 e2 hkN
              go_wp2
              go_roundw
              case rel => exact ⟨t + 1, _, _, by omega, by go_num, HQ⟩
              case measure => simp [intOf]; omega
        | true =>
          have cz := HR5.out.cell HZ.out
          have fz : w5.frozen? ⟨nb, i, none⟩ = false := HR5.out.box.frozen i
          have hz1 := hnd.2 rfl
          have hzw : IntKind.i64.wrap (z - 1) = z - 1 := by rw [IntKind.wrap_i64]; have := HZN.out; omega
          obtain ⟨w6, hw6⟩ : ∃ X, X = w5.setCell ⟨nb, i, none⟩ (.int .i64 (z - 1)) := ⟨_, rfl⟩
          have HQ : Hid (Rnd L0 N ab cap nb (D : Int) (U : Int) (t + 1) ps2 (ns.set i (z - 1)) wa w6) := ⟨by rw [hw6]; exact HR5.out.setN i (z - 1), HG5.out, by have := hnd.1; rw [if_pos rfl] at this; exact this.mono (Nat.le_succ t)⟩
          have hi8 : i < 8 := by have := HNN.out; omega
          clear ha5 hc5 hap hnd hz1 HG5 HR5 HAS HRY HBT HTY HP HZ HZN HSY
          go_upto_region 26 with fail
          rw [← hw6]
          clear hw6 cz fz hzw hi8
          go_wp2
          have HSM : Hid ((∀ a ∈ ps2, 0 ≤ a.s.d) ∧ (∀ a ∈ ps2, 0 ≤ a.s.u)) := HQ.out.good.nd
          obtain ⟨y, hy⟩ : ∃ y, (ns.set i (z - 1))[i]? = some y := ⟨_, List.getElem?_eq_getElem (by rw [HQ.out.nds.nl]; have := HNN.out; omega)⟩
          obtain ⟨p9, hp9⟩ : ∃ q, (ps2)[i]? = some q := ⟨_, List.getElem?_eq_getElem (by rw [HQ.out.good.len]; exact hiN)⟩
          have hy0 : ¬ y < 0 := by have := (HQ.out.nds.nn i p9 y hp9 hy).1; omega
          have HY : Hid ((ns.set i (z - 1))[i]? = some y) := hy
          clear hy hp9 p9
          go_loopw [17, 18, 19] (fun s17 s18 s19 wq => ∃ (k : Nat), k ≤ N ∧ s17 = .int .i64 (sumTo (fun p => p.s.d) k (ps2)) ∧ s18 = .int .i64 (sumTo (fun p => p.s.u) k (ps2)) ∧ s19 = .int .i64 (k : Int) ∧ Hid (Rnd L0 N ab cap nb (D : Int) (U : Int) (t + 1) (ps2) (ns.set i (z - 1)) wa wq)) (fun _ _ s19 _ => N - (intOf s19).toNat)
          case atStart => exact ⟨0, Nat.zero_le _, rfl, rfl, rfl, HQ⟩
          case round =>
            clear HQ
            obtain ⟨k, hk, rfl, rfl, rfl, HQ⟩ := hrel
            have hN8 : N ≤ 8 := HNN.out.2.1
            by_cases hkN : k < N
            · have hkN' : (k : Int) < (N : Int) := by omega
              obtain ⟨q, hq⟩ : ∃ q, (ps2)[k]? = some q := ⟨_, List.getElem?_eq_getElem (by rw [HQ.out.good.len]; exact hkN)⟩
              obtain ⟨d0, d1, d2⟩ := HQ.out.r.all.cells hq
              have HQK : Hid ((ps2)[k]? = some q) := hq
              have hsd := sumTo_step (fun p : Pl => p.s.d) hq
              have hsu := sumTo_step (fun p : Pl => p.s.u) hq
              have l1 := sumTo_le (fun p : Pl => p.s.d) (k + 1) (ps2) HSM.out.1
              have l2 := sumTo_le (fun p : Pl => p.s.u) (k + 1) (ps2) HSM.out.2
              rw [HQ.out.good.sd] at l1
              rw [HQ.out.good.su] at l2
              obtain ⟨g1, hg1⟩ : ∃ g, g = q.s.d := ⟨_, rfl⟩
              obtain ⟨g2, hg2⟩ : ∃ g, g = q.s.u := ⟨_, rfl⟩
              obtain ⟨S1, hS1⟩ : ∃ g, g = sumTo (fun p => p.s.d) k (ps2) := ⟨_, rfl⟩
              obtain ⟨S2, hS2⟩ : ∃ g, g = sumTo (fun p => p.s.u) k (ps2) := ⟨_, rfl⟩
              have hsd' : sumTo (fun p : Pl => p.s.d) (k + 1) (ps2) = S1 + g1 := by rw [hS1, hg1]; exact hsd
              have hsu' : sumTo (fun p : Pl => p.s.u) (k + 1) (ps2) = S2 + g2 := by rw [hS2, hg2]; exact hsu
              have v1 : IntKind.i64.wrap (S1 + g1) = S1 + g1 := by rw [IntKind.wrap_i64]; rw [hsd'] at l1; have := HNN.out; omega
              have v2 : IntKind.i64.wrap (S2 + g2) = S2 + g2 := by rw [IntKind.wrap_i64]; rw [hsu'] at l2; have := HNN.out; omega
              have HSD : Hid (sumTo (fun p : Pl => p.s.d) (k + 1) (ps2) = S1 + g1) := hsd'
              have HSU : Hid (sumTo (fun p : Pl => p.s.u) (k + 1) (ps2) = S2 + g2) := hsu'
              have HRI : Hid (∀ W, Blk W q.lb q.s.cs 82 → Calls Tryz.prog 11 #[.pointer (some ⟨q.lb, 0, none⟩)] W fun r w' => r = .returned (.agg #[.int .i64 g1, .int .i64 g2]) ∧ Below W.heap.size W w') := fun W a => by rw [hg1, hg2]; exact Led.rights_any W a
              rw [← hS1, ← hS2]
              clear hq hsd hsu l1 l2 hg1 hg2 hS1 hS2 hsd' hsu' d0 d2
              go_wp2_with fail
              refine Calls.mono (HRI.out _ (HQ.out.r.all.pls.all k q HQK.out).ld) ?_
              rintro e w5 ⟨rfl, hb5⟩
              have hf0 := fldR0 g1 g2 w5
              have HQ5 : Hid (Rnd L0 N ab cap nb (D : Int) (U : Int) (t + 1) (ps2) (ns.set i (z - 1)) wa w5) := HQ.out.more hb5
              clear hb5 HQ d1
              obtain ⟨d0, d1, d2⟩ := HQ5.out.r.all.cells HQK.out
              clear d0 d2
              go_wp2_with fail
              refine Calls.mono (HRI.out _ (HQ5.out.r.all.pls.all k q HQK.out).ld) ?_
              rintro e w6 ⟨rfl, hb6⟩
              have hf1 := fldR1 g1 g2 w6
              have HQ6 : Hid (Rnd L0 N ab cap nb (D : Int) (U : Int) (t + 1) (ps2) (ns.set i (z - 1)) wa w6) := HQ5.out.more hb6
              clear hb6 HQ5 d1 HRI
              go_wp2
              go_roundw
              case rel => exact ⟨k + 1, by omega, by rw [HSD.out], by rw [HSU.out], by go_num, HQ6⟩
              case measure => simp [intOf]; omega
            · obtain rfl : k = N := by omega
              have e1 : sumTo (fun p : Pl => p.s.d) k (ps2) = (D : Int) := by unfold sumTo; rw [List.take_of_length_le (by rw [HQ.out.good.len]; exact Nat.le_refl _)]; exact HQ.out.good.sd
              have e2 : sumTo (fun p : Pl => p.s.u) k (ps2) = (U : Int) := by unfold sumTo; rw [List.take_of_length_le (by rw [HQ.out.good.len]; exact Nat.le_refl _)]; exact HQ.out.good.su
              rw [e1, e2]
              have cz := HQ.out.r.cell HY.out
              have hi8 : i < 8 := by omega
              clear e1 e2 hkN
              go_wp2
              go_roundw
              case rel => exact ⟨t + 1, _, _, by omega, by go_num, HQ⟩
              case measure => simp [intOf]; omega
      · have HSPR : Hid _ := spread_any (t := t) Y HRY.out.r.all HP.out HRY.out.good.vw (by omega) (HRY.out.good.ld i p HP.out).le.1 (HRY.out.good.ld i p HP.out).le.2.1 (HRY.out.good.ld i p HP.out).le.2.2 HNN.out.1 HNN.out.2.1
        go_wp2_with fail
        refine Calls.mono HSPR.out ?_
        rintro e w5 ⟨rfl, x, hx, ha5, hc5⟩
        obtain ⟨ps2, hps2⟩ : ∃ q, q = tookL (N : Int) i x N (ps.set i { p with V := tellNext (i : Int) p.V (E0 i p.s.d p.s.u) }) := ⟨_, rfl⟩
        have HQ : Hid (Rnd L0 N ab cap nb (D : Int) (U : Int) (t + 1) ps2 ns wa w5) := by
          rw [← hps2] at ha5
          refine ⟨HRY.out.r.upd hc5 ha5, by rw [hps2]; exact HRY.out.good.spread HP.out (by have := HNN.out; omega) hx, (HRY.out.nds.mono (Nat.le_succ t)).same fun j q hq => ?_⟩
          rw [hps2, tookL_at] at hq
          cases hs : (ps.set i { p with V := tellNext (i : Int) p.V (E0 i p.s.d p.s.u) })[j]? with
          | none => rw [hs] at hq; cases hq
          | some q0 =>
            rw [hs] at hq
            simp only [Option.map_some, Option.some.injEq] at hq
            subst hq
            have hL : ∀ r : Pl, (if j < N ∧ j ≠ i then r.took (N : Int) (j : Int) (i : Int) x else r).L = r.L := fun r => by split <;> rfl
            rw [hL]
            rcases set_some hs with ⟨rfl, rfl⟩ | ⟨_, hs⟩
            · exact ⟨p, HP.out, .inl rfl⟩
            · exact ⟨q0, hs, .inl rfl⟩
        clear hx ha5 hc5 hps2 HSPR HRY HBT HTY HP HZ HZN HSY
        go_wp2
        have HSM : Hid ((∀ a ∈ ps2, 0 ≤ a.s.d) ∧ (∀ a ∈ ps2, 0 ≤ a.s.u)) := HQ.out.good.nd
        obtain ⟨y, hy⟩ : ∃ y, (ns)[i]? = some y := ⟨_, List.getElem?_eq_getElem (by rw [HQ.out.nds.nl]; have := HNN.out; omega)⟩
        obtain ⟨p9, hp9⟩ : ∃ q, (ps2)[i]? = some q := ⟨_, List.getElem?_eq_getElem (by rw [HQ.out.good.len]; exact hiN)⟩
        have hy0 : ¬ y < 0 := by have := (HQ.out.nds.nn i p9 y hp9 hy).1; omega
        have HY : Hid ((ns)[i]? = some y) := hy
        clear hy hp9 p9
        go_loopw [17, 18, 19] (fun s17 s18 s19 wq => ∃ (k : Nat), k ≤ N ∧ s17 = .int .i64 (sumTo (fun p => p.s.d) k (ps2)) ∧ s18 = .int .i64 (sumTo (fun p => p.s.u) k (ps2)) ∧ s19 = .int .i64 (k : Int) ∧ Hid (Rnd L0 N ab cap nb (D : Int) (U : Int) (t + 1) (ps2) (ns) wa wq)) (fun _ _ s19 _ => N - (intOf s19).toNat)
        case atStart => exact ⟨0, Nat.zero_le _, rfl, rfl, rfl, HQ⟩
        case round =>
          clear HQ
          obtain ⟨k, hk, rfl, rfl, rfl, HQ⟩ := hrel
          have hN8 : N ≤ 8 := HNN.out.2.1
          by_cases hkN : k < N
          · have hkN' : (k : Int) < (N : Int) := by omega
            obtain ⟨q, hq⟩ : ∃ q, (ps2)[k]? = some q := ⟨_, List.getElem?_eq_getElem (by rw [HQ.out.good.len]; exact hkN)⟩
            obtain ⟨d0, d1, d2⟩ := HQ.out.r.all.cells hq
            have HQK : Hid ((ps2)[k]? = some q) := hq
            have hsd := sumTo_step (fun p : Pl => p.s.d) hq
            have hsu := sumTo_step (fun p : Pl => p.s.u) hq
            have l1 := sumTo_le (fun p : Pl => p.s.d) (k + 1) (ps2) HSM.out.1
            have l2 := sumTo_le (fun p : Pl => p.s.u) (k + 1) (ps2) HSM.out.2
            rw [HQ.out.good.sd] at l1
            rw [HQ.out.good.su] at l2
            obtain ⟨g1, hg1⟩ : ∃ g, g = q.s.d := ⟨_, rfl⟩
            obtain ⟨g2, hg2⟩ : ∃ g, g = q.s.u := ⟨_, rfl⟩
            obtain ⟨S1, hS1⟩ : ∃ g, g = sumTo (fun p => p.s.d) k (ps2) := ⟨_, rfl⟩
            obtain ⟨S2, hS2⟩ : ∃ g, g = sumTo (fun p => p.s.u) k (ps2) := ⟨_, rfl⟩
            have hsd' : sumTo (fun p : Pl => p.s.d) (k + 1) (ps2) = S1 + g1 := by rw [hS1, hg1]; exact hsd
            have hsu' : sumTo (fun p : Pl => p.s.u) (k + 1) (ps2) = S2 + g2 := by rw [hS2, hg2]; exact hsu
            have v1 : IntKind.i64.wrap (S1 + g1) = S1 + g1 := by rw [IntKind.wrap_i64]; rw [hsd'] at l1; have := HNN.out; omega
            have v2 : IntKind.i64.wrap (S2 + g2) = S2 + g2 := by rw [IntKind.wrap_i64]; rw [hsu'] at l2; have := HNN.out; omega
            have HSD : Hid (sumTo (fun p : Pl => p.s.d) (k + 1) (ps2) = S1 + g1) := hsd'
            have HSU : Hid (sumTo (fun p : Pl => p.s.u) (k + 1) (ps2) = S2 + g2) := hsu'
            have HRI : Hid (∀ W, Blk W q.lb q.s.cs 82 → Calls Tryz.prog 11 #[.pointer (some ⟨q.lb, 0, none⟩)] W fun r w' => r = .returned (.agg #[.int .i64 g1, .int .i64 g2]) ∧ Below W.heap.size W w') := fun W a => by rw [hg1, hg2]; exact Led.rights_any W a
            rw [← hS1, ← hS2]
            clear hq hsd hsu l1 l2 hg1 hg2 hS1 hS2 hsd' hsu' d0 d2
            go_wp2_with fail
            refine Calls.mono (HRI.out _ (HQ.out.r.all.pls.all k q HQK.out).ld) ?_
            rintro e w5 ⟨rfl, hb5⟩
            have hf0 := fldR0 g1 g2 w5
            have HQ5 : Hid (Rnd L0 N ab cap nb (D : Int) (U : Int) (t + 1) (ps2) (ns) wa w5) := HQ.out.more hb5
            clear hb5 HQ d1
            obtain ⟨d0, d1, d2⟩ := HQ5.out.r.all.cells HQK.out
            clear d0 d2
            go_wp2_with fail
            refine Calls.mono (HRI.out _ (HQ5.out.r.all.pls.all k q HQK.out).ld) ?_
            rintro e w6 ⟨rfl, hb6⟩
            have hf1 := fldR1 g1 g2 w6
            have HQ6 : Hid (Rnd L0 N ab cap nb (D : Int) (U : Int) (t + 1) (ps2) (ns) wa w6) := HQ5.out.more hb6
            clear hb6 HQ5 d1 HRI
            go_wp2
            go_roundw
            case rel => exact ⟨k + 1, by omega, by rw [HSD.out], by rw [HSU.out], by go_num, HQ6⟩
            case measure => simp [intOf]; omega
          · obtain rfl : k = N := by omega
            have e1 : sumTo (fun p : Pl => p.s.d) k (ps2) = (D : Int) := by unfold sumTo; rw [List.take_of_length_le (by rw [HQ.out.good.len]; exact Nat.le_refl _)]; exact HQ.out.good.sd
            have e2 : sumTo (fun p : Pl => p.s.u) k (ps2) = (U : Int) := by unfold sumTo; rw [List.take_of_length_le (by rw [HQ.out.good.len]; exact Nat.le_refl _)]; exact HQ.out.good.su
            rw [e1, e2]
            have cz := HQ.out.r.cell HY.out
            have hi8 : i < 8 := by omega
            clear e1 e2 hkN
            go_wp2
            go_roundw
            case rel => exact ⟨t + 1, _, _, by omega, by go_num, HQ⟩
            case measure => simp [intOf]; omega
    · have hn1 : ¬ ((t : Int) < (nn : Int) ∧ (t : Int) < 200) := by omega
      by_cases h1 : (t : Int) < (nn : Int)
      · have h2 : ¬ (t : Int) < 200 := by omega
        clear hn1 hlt
        go_wp2
        go_ret
        exact ⟨rfl, HBW.out⟩
      · clear hn1 hlt
        go_wp2
        go_ret
        exact ⟨rfl, HBW.out⟩
end Go.Proofs.YtnphkmdanicemaaGreatDoor
