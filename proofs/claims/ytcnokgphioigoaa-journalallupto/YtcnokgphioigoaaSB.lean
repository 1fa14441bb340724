import Derived.Test.YtcnokgphioigoaaSA
import Derived.Deep.Cut
import Derived.BigQuiet
namespace Go.Proofs.Ytcnokgphioigoaa.Sh
open Go.RowKit Go.PlainAid
set_option linter.unusedVariables false
set_option linter.unusedSimpArgs false
set_option maxRecDepth 100000 in
set_option maxHeartbeats 3200000 in
/-- A list that is full of its mark is held, and grown. -/
theorem holdB_any {L kb n : Nat} {C : Array Value} {vI vM l : Value} {es : List Lst} {m : Int} (w : World) (hB : Blk w kb ((C.setIfInBounds 1 vI).setIfInBounds 3 vM) 86) (hcs : C.size = 4) (hK : KF FB L vI vM es es w) (hl : w.ownsRow L 5 1 l n (full FB n m)) (hne : ∀ e ∈ es, ∀ g, l.ownBlock = some g → e.v.ownBlock ≠ some g)
    (hn : n ≤ 1000000) (hm0 : 0 ≤ m) (hm1 : m ≤ 1000000000000000) (hel : es.length ≤ 1000000000000) (hlk : L ≤ kb) :
    Calls Try.prog 69 #[.pointer (some ⟨kb, 0, none⟩), l, .int .i64 m] w fun r w' => r = .returned (.tuple #[]) ∧ ∃ v1 v2 far es', HS FB L kb C vI vM l es w v1 v2 far es' es' (n + 40) m w' ∧ es'.length ≤ es.length + 18 ∧ es.length < es'.length := by
  have hH : HS FB L kb C vI vM l es w vI vM l es es n m w := ⟨hB, hK, hl, fun e he g q1 q2 => absurd q2 (hne e he g q1), Chg.refl _ _, fun g e => .inl e, fun g e => .inl e, fun g e => .inl e, fun e he g q => .inl ⟨e, he, q⟩, fun e he => .inl he, hcs, hlk⟩
  obtain ⟨lo, lc, hll, _⟩ := own_slice hl
  obtain ⟨io, ic, hii, _⟩ := own_slice hK.xi
  obtain ⟨mo, mc, hmm, _⟩ := own_slice hK.xm
  subst hll hii hmm
  have c1 : w.cell? ⟨kb, 1, none⟩ = some (.slice io es.length ic) := hH.cI FB.ok
  have HH : Hid _ := hH
  have hwm : IntKind.i64.wrap (m.tmod 250) = m % 250 := by rw [Int.tmod_eq_emod_of_nonneg hm0, IntKind.wrap_i64]; omega
  have hwa : IntKind.i64.wrap (m % 250 + 1) = m % 250 + 1 := by rw [IntKind.wrap_i64]; omega
  have hwu : IntKind.u8.wrap (m % 250 + 1) = m % 250 + 1 := by rw [IntKind.wrap_u8]; omega
  clear hK hl hne hH hB hlk hcs
  go_enter Try.func69, Try.ntmps69
  go_wp2_with (first
    | (at_builtin; go_must (refine HS.wpI FB.ok HH.out (by first | omega | (simp; omega)) rfl _ _ rfl rfl rfl (by first | rfl | simp) ?_))
    | fail)
  intro vo1 vc1 w1 f1 c1' H1
  have cm := H1.out.cM FB.ok
  replace cm : (w1.setCell ⟨kb, 1, none⟩ (.slice vo1 (es.length + 1) vc1)).cell? ⟨kb, 3, none⟩ = some (.slice mo es.length mc) := cm
  clear HH c1
  go_wp2_with (first
    | (at_builtin; go_must (refine HS.wpM FB.ok H1.out (by first | omega | (simp; omega)) rfl _ _ rfl rfl rfl (by first | rfl | simp) ?_))
    | fail)
  intro vo2 vc2 w2 f2 c2' H2
  clear H1 cm f1 c1'
  go_wp2
  go_loopw [6, 7] (fun fv i wr => ∃ (k : Nat) (v1 v2 : Value) (es' : List Lst), k ≤ 40 ∧ i = .int .i64 k ∧ es'.length ≤ es.length + 1 + k ∧ (17 ≤ k → k < 40 → es'.length ≤ es.length + 17) ∧ (k = 40 → es'.length ≤ es.length + 18) ∧ es.length < es'.length ∧ Hid (HS FB L kb C (.slice io es.length ic) (.slice mo es.length mc) (.slice lo n lc) es w v1 v2 fv es' es' (n + k) m wr)) (fun _ i _ => 40 - (intOf i).toNat)
  case atStart => exact ⟨0, _, _, _, Nat.zero_le _, rfl, by simp, by omega, by omega, by simp, H2⟩
  case round =>
    clear H2 f2 c2'
    obtain ⟨k, v1, v2, es', hk, rfl, hel1, hel2, hel3, hel4, HH⟩ := hrel
    have hH := HH.out
    obtain ⟨fo, fc, hff, _⟩ := own_slice hH.fr
    obtain ⟨jo, jc, hjj, _⟩ := own_slice hH.kf.xi
    obtain ⟨no, nc, hnn, _⟩ := own_slice hH.kf.xm
    subst hff hjj hnn
    by_cases hlt : k < 40
    · have hlti : (k : Int) < 40 := by omega
      clear hH
      go_wp2_with (first
        | (at_builtin; go_must (refine HS.wpF FB.ok HH.out (by first | omega | (simp; omega)) rfl _ _ rfl rfl rfl (by first | rfl | simp) ?_))
        | fail)
      intro vf cf w0 HF
      clear HH
      have c1 : w0.cell? ⟨kb, 1, none⟩ = some (.slice jo es'.length jc) := HF.out.cI FB.ok
      by_cases h16 : k < 16
      · have h16i : (k : Int) < 16 := by omega
        have HH : Hid _ := HF
        clear HF
        go_wp2_with (first
          | (at_builtin; go_must (refine HS.wpI FB.ok HH.out (by first | omega | (simp; omega)) rfl _ _ rfl rfl rfl (by first | rfl | simp) ?_))
          | fail)
        intro vo1 vc1 w1 f1 c1' H1
        have cm := H1.out.cM FB.ok
        replace cm : (w1.setCell ⟨kb, 1, none⟩ (.slice vo1 (es'.length + 1) vc1)).cell? ⟨kb, 3, none⟩ = some (.slice no es'.length nc) := cm
        clear HH c1
        go_wp2_with (first
          | (at_builtin; go_must (refine HS.wpM FB.ok H1.out (by first | omega | (simp; omega)) rfl _ _ rfl rfl rfl (by first | rfl | simp) ?_))
          | fail)
        intro vo2 vc2 w2 f2 c2' H2
        clear H1 cm f1 c1'
        go_wp2
        go_roundw
        case rel => exact ⟨k + 1, _, _, _, by omega, by go_num, by simp; omega, by simp; omega, by simp; omega, by simp; omega, H2⟩
        case measure => simp [intOf]; omega
      · have h16i : ¬ (k : Int) < 16 := by omega
        by_cases h39 : k = 39
        · subst h39
          have HH : Hid _ := HF
          clear HF
          go_wp2_with (first
            | (at_builtin; go_must (refine HS.wpI FB.ok HH.out (by first | omega | (simp; omega)) rfl _ _ rfl rfl rfl (by first | rfl | simp) ?_))
            | fail)
          intro vo1 vc1 w1 f1 c1' H1
          have cm := H1.out.cM FB.ok
          replace cm : (w1.setCell ⟨kb, 1, none⟩ (.slice vo1 (es'.length + 1) vc1)).cell? ⟨kb, 3, none⟩ = some (.slice no es'.length nc) := cm
          clear HH c1
          go_wp2_with (first
            | (at_builtin; go_must (refine HS.wpM FB.ok H1.out (by first | omega | (simp; omega)) rfl _ _ rfl rfl rfl (by first | rfl | simp) ?_))
            | fail)
          intro vo2 vc2 w2 f2 c2' H2
          clear H1 cm f1 c1'
          go_wp2
          go_roundw
          case rel => exact ⟨40, _, _, _, by omega, by go_num, by simp; omega, by simp, by simp; omega, by simp; omega, H2⟩
          case measure => simp [intOf]
        · have h39i : ((k : Int) == 39) = false := by simpa using (by omega : (k : Int) ≠ 39)
          clear c1
          go_wp2
          go_roundw
          case rel => exact ⟨k + 1, _, _, es', by omega, by go_num, by omega, by omega, by omega, hel4, HF⟩
          case measure => simp [intOf]; omega
    · obtain rfl : k = 40 := by omega
      clear hH
      go_wp2
      go_end0
      exact ⟨rfl, _, _, _, es', HH.out, by simpa using hel3, hel4⟩
end Go.Proofs.Ytcnokgphioigoaa.Sh
namespace Go.Proofs.Ytcnokgphioigoaa.Sh
open Go.RowKit Go.PlainAid
set_option linter.unusedVariables false
set_option linter.unusedSimpArgs false
theorem below_drewN' (w : World) (q : Nat) : Below w.heap.size w (w.drewN q) := ⟨rfl, rfl, rfl, Nat.le_refl _, fun _ _ => rfl⟩
set_option maxRecDepth 100000 in
set_option maxHeartbeats 6400000 in
/-- The lists are as they were; then they are written full, grown, and whole. -/
theorem lately_any {L kb : Nat} {s : LS} (w : World) (hK : KL L kb s w) (hel : s.e.length ≤ 50000000000) :
    Calls Try.prog 62 #[.pointer (some ⟨kb, 0, none⟩)] w fun r w' => r = .returned (.bool true) ∧ Chg (KLB kb s) w w' := by
  obtain ⟨vI, vW, es⟩ := s
  obtain ⟨io, ci, hii, _⟩ := own_slice hK.b.xi
  obtain ⟨wo, cw, hww, _⟩ := own_slice hK.b.xw
  simp only at hii hww hel
  obtain ⟨ne, hne⟩ : ∃ ne, ne = es.length := ⟨_, rfl⟩
  rw [← hne] at hii hww hel
  subst hii hww
  have c1 : w.cell? ⟨kb, 1, none⟩ = some (.slice io ne ci) := hK.blk.cell 1
  have c2 : w.cell? ⟨kb, 2, none⟩ = some (.slice wo ne cw) := hK.blk.cell 2
  have HK : Hid _ := hK
  have HL : Hid _ := hK.lk'
  have HNE : Hid (ne = es.length) := hne
  obtain ⟨s, hs⟩ : ∃ s : LS, s = ⟨.slice io ne ci, .slice wo ne cw, es⟩ := ⟨_, rfl⟩
  have HSS : Hid (s = ⟨.slice io ne ci, .slice wo ne cw, es⟩) := hs
  have hse : s.e = es := by rw [hs]
  have HSE : Hid (s.e = es) := hse
  rw [← hs] at HK HL ⊢
  clear hK hne hs hse
  go_enter Try.func62, Try.ntmps62
  go_wp2_with fail
  go_loopw [3] (fun s wr => ∃ i q : Nat, i ≤ ne ∧ s = .int .i64 (i : Int) ∧ wr = w.drewN q) (fun s _ => ne - (intOf s).toNat)
  case atStart => exact ⟨0, 0, Nat.zero_le _, rfl, rfl⟩
  case round =>
    obtain ⟨i, q, hie, rfl, rfl⟩ := hrel
    have c1' : (w.drewN q).cell? ⟨kb, 1, none⟩ = some (.slice io ne ci) := c1
    by_cases hi : i < ne
    · obtain ⟨e, he⟩ : ∃ e, es[i]? = some e := ⟨es[i]'(by rw [← HNE.out]; exact hi), List.getElem?_eq_getElem _⟩
      have hem : e ∈ s.e := by rw [HSE.out]; exact List.mem_of_getElem? he
      obtain ⟨el, ew, ln, zs⟩ := e
      have hl := HK.out.b.el _ hem
      have hw := HK.out.b.ew _ hem
      have hzl := HK.out.b.ln _ hem
      have hgd := HK.out.b.gd _ hem
      simp only at hl hw hzl hgd
      obtain ⟨bs, hbl, rfl⟩ := hgd
      obtain ⟨lo, lc, hll, _⟩ := own_slice hl
      obtain ⟨vo, vc, hvv, _⟩ := own_slice hw
      subst hll hvv
      have xi := HK.out.b.xi
      have xw := HK.out.b.xw
      rw [HSS.out] at xi xw
      simp only at xi xw
      rw [← HNE.out] at xi xw
      obtain ⟨gi, rfl⟩ := row_ptr xi (by omega)
      obtain ⟨gw, rfl⟩ := row_ptr xw (by omega)
      have d2 : w.cell? ⟨gi, i, none⟩ = some (.slice lo ln lc) := row_cell xi (by rw [List.getElem?_map, he]; rfl)
      have d4 : w.cell? ⟨gw, i, none⟩ = some (.slice vo ln vc) := row_cell xw (by rw [List.getElem?_map, he]; rfl)
      have f1 : (w.drewN q).cell? ⟨kb, 1, none⟩ = some (.slice (some ⟨gi, 0, none⟩) ne ci) := c1
      have f2 : (w.drewN q).cell? ⟨gi, i, none⟩ = some (.slice lo ln lc) := d2
      have f3 : (w.drewN q).cell? ⟨kb, 2, none⟩ = some (.slice (some ⟨gw, 0, none⟩) ne cw) := c2
      have f4 : (w.drewN q).cell? ⟨gw, i, none⟩ = some (.slice vo ln vc) := d4
      subst hbl
      have hk1 : ∀ n, Calls Try.prog 27 #[.slice lo bs.length lc, .slice vo bs.length vc] ((w.drewN q).drewN n) fun e w' => e = .returned (.bool (bs == bs)) ∧ w' = (w.drewN q).drewN n := fun n => same_any ((w.drewN q).drewN n) (own_by (show World.ownsRow ((w.drewN q).drewN n) _ _ _ _ _ _ from hl)) (own_by (show World.ownsRow ((w.drewN q).drewN n) _ _ _ _ _ _ from hw))
      simp only [beq_self_eq_true] at hk1
      clear hl hw xi xw he hem
      obtain ⟨wz, hwz⟩ : ∃ wz, wz = w.drewN q := ⟨_, rfl⟩
      rw [← hwz] at f1 f2 f3 f4 hk1 c1' ⊢
      have HWZ : Hid _ := hwz
      have HQ : Hid _ := hk1
      clear hk1 hwz
      go_wp2_with fail
      go_quiet (first | (go_at_call 27; exact Calls.quiet_of_same (HQ.out _)) | fail)
      go_wp2_with fail
      go_roundw
      case rel => exact ⟨i + 1, _, by omega, by go_num, by rw [HWZ.out, World.drewN_drewN]⟩
      case measure => simp [intOf]; omega
    · have hbw : Below w.heap.size w (w.drewN q) := below_drewN' _ _
      generalize w.drewN q = wr at *
      obtain ⟨tb, htb⟩ : ∃ tb, tb = wr.heap.size := ⟨_, rfl⟩
      obtain ⟨X, hX⟩ : ∃ X, X = wr.alloc (.cells #[.bool false, .slice none 0 0, .slice none 0 0, .slice none 0 0] 86) := ⟨_, rfl⟩
      have hLw : L ≤ wr.heap.size := Nat.le_trans (Nat.le_trans HK.out.lk (Nat.le_of_lt HL.out.kl)) hbw.size
      have hbX : Below w.heap.size w X := by rw [hX]; exact hbw.alloc hbw.size _
      have hKX := HK.out.frame (Chg.ofBelow (fun _ => False) hbX) (fun _ _ e => e)
      have hBT : Blk X tb #[.bool false, .slice none 0 0, .slice none 0 0, .slice none 0 0] 86 := by rw [hX, htb]; exact heap_alloc_new wr _
      have HLT : ∀ k, LO s k → k < w.heap.size := fun k h => by
        obtain ⟨e, he, hk⟩ := h
        exact (ownsRow_lt (HK.out.b.el e he) hk).2
      have HF0 : Hid (LF L kb s w tb 0 X) := ⟨hKX.blk, ⟨hKX.b.xi, (fun j e he hj => by omega), (fun j e he _ => hKX.b.el e (List.mem_of_getElem? he))⟩, KE.new hBT (by omega), Chg.ofBelow _ hbX, HLT, by have := hbw.size; omega⟩
      have HEX : Hid (X = wr.alloc (.cells #[.bool false, .slice none 0 0, .slice none 0 0, .slice none 0 0] 86)) := hX
      have HET : Hid (tb = wr.heap.size) := htb
      clear hLw hbX hKX hBT hX htb HLT
      go_upto_region 7 with fail
      rw [← HEX.out, ← HET.out]
      clear HEX HET c1' hbw
      go_wp2_with fail
      go_loopw [5] (fun x wr => ∃ j : Nat, j ≤ ne ∧ x = .int .i64 (j : Int) ∧ LF L kb s w tb j wr) (fun x _ => ne - (intOf x).toNat)
      case atStart => exact ⟨0, Nat.zero_le _, rfl, HF0.out⟩
      case round =>
        clear HF0
        obtain ⟨j, hje, rfl, hF⟩ := hrel
        have HF : Hid _ := hF
        have e1 : wr.cell? ⟨kb, 1, none⟩ = some (.slice io ne ci) := by have := hF.blk.cell 1; rw [HSS.out] at this; exact this
        clear hF
        by_cases hj : j < ne
        · obtain ⟨e, he⟩ : ∃ e, s.e[j]? = some e := ⟨s.e[j]'(by rw [HSE.out, ← HNE.out]; exact hj), List.getElem?_eq_getElem _⟩
          obtain ⟨el, ew, ln, zs⟩ := e
          have hzl := HK.out.b.ln _ (List.mem_of_getElem? he)
          have hre := HF.out.b.re j _ he (Nat.le_refl _)
          simp only at hzl hre
          have xi := HF.out.b.xi
          rw [HSS.out] at xi
          simp only at xi
          rw [← HNE.out] at xi
          obtain ⟨gi, rfl⟩ := row_ptr xi (by omega)
          obtain ⟨lo, lc, hll, _⟩ := own_slice hre
          subst hll
          have d2 : wr.cell? ⟨gi, j, none⟩ = some (.slice lo ln lc) := row_cell xi (by rw [List.getElem?_map, ← HSE.out, he]; rfl)
          have HFI : Hid _ := fillB_any (m := (j : Int)) wr hre (by omega) (by omega) (by omega)
          have HST : Hid _ := fun w2 => HF.out.stepB (w2 := w2) HL.out he
          simp only at HST
          clear he hre xi
          go_wp2_with fail
          refine Calls.mono HFI.out ?_
          rintro e9 w2 ⟨rfl, hr2, hc2⟩
          have HF2 : Hid _ := HST.out w2 hr2 hc2
          clear hr2 hc2 HFI HF d2 HST
          go_wp2_with fail
          go_roundw
          case rel => exact ⟨j + 1, by omega, by go_num, HF2.out⟩
          case measure => simp [intOf]; omega
        · have hjn : j = s.e.length := by have := HNE.out; rw [HSE.out]; omega
          have HH0 : Hid (LH L kb s w tb 0 ES0 wr) := by
            have := HF.out
            rw [hjn] at this
            exact this.held
          clear HF hjn
          go_wp2_with fail
          go_loopw [6] (fun x wr => ∃ j : Nat, j ≤ ne ∧ x = .int .i64 (j : Int) ∧ ∃ t, LH L kb s w tb j t wr) (fun x _ => ne - (intOf x).toNat)
          case atStart => exact ⟨0, Nat.zero_le _, rfl, _, HH0.out⟩
          case round =>
            clear HH0
            obtain ⟨j, hje, rfl, t, hH⟩ := hrel
            have HH : Hid _ := hH
            have e1 : wr.cell? ⟨kb, 1, none⟩ = some (.slice io ne ci) := by have := hH.blk.cell 1; rw [HSS.out] at this; exact this
            clear hH
            by_cases hj : j < ne
            · obtain ⟨e, he⟩ : ∃ e, s.e[j]? = some e := ⟨s.e[j]'(by rw [HSE.out, ← HNE.out]; exact hj), List.getElem?_eq_getElem _⟩
              obtain ⟨el, ew, ln, zs⟩ := e
              have hzl := HK.out.b.ln _ (List.mem_of_getElem? he)
              have hre := HH.out.b.fu j _ he (Nat.le_refl _)
              simp only at hzl hre
              have xi := HH.out.b.xi
              rw [HSS.out] at xi
              simp only at xi
              rw [← HNE.out] at xi
              obtain ⟨gi, rfl⟩ := row_ptr xi (by omega)
              obtain ⟨lo, lc, hll, _⟩ := own_slice hre
              subst hll
              have d2 : wr.cell? ⟨gi, j, none⟩ = some (.slice lo ln lc) := row_cell xi (by rw [List.getElem?_map, ← HSE.out, he]; rfl)
              have hno := HH.out.noB HL.out he
              simp only at hno
              have HHO : Hid _ := holdB_any (m := (j : Int)) (C := #[.bool false, t.vI, .slice none 0 0, t.vM]) wr HH.out.tk.blk rfl HH.out.tk.b hre (fun x hx g h1 h2 => hno g h1 (.inr (.inr (.inr ⟨x, hx, h2⟩)))) hzl (by omega) (by omega) (by have := HH.out.cn1; omega) HH.out.tk.lk
              have HST : Hid (∀ (v1 v2 far : Value) (ls2 : List Lst) (w2 : World), HS FB L tb #[.bool false, t.vI, .slice none 0 0, t.vM] t.vI t.vM (.slice lo ln lc) t.e wr v1 v2 far ls2 ls2 (ln + 40) j w2 → ls2.length ≤ t.e.length + 18 → ∃ t', LH L kb s w tb (j + 1) t' w2) := fun v1 v2 far ls2 w2 hS hle => by
                obtain ⟨a1, a2, a3⟩ := HH.out.tk.heldB hre (by omega) hS
                exact ⟨_, HH.out.stepB HL.out he a1 a2 a3 hle⟩
              clear he hre xi hno
              go_wp2_with fail
              refine Calls.mono HHO.out ?_
              rintro e9 w2 ⟨rfl, u1, u2, far, ls2, hS2, hle2, _⟩
              have HH2 : Hid _ := HST.out u1 u2 far ls2 w2 hS2 hle2
              clear hS2 hle2 HHO HH d2 HST
              go_wp2_with fail
              go_roundw
              case rel => exact ⟨j + 1, by omega, by go_num, HH2.out⟩
              case measure => simp [intOf]; omega
            · have HWH : Hid _ := whole_early wr HH.out.tk
              go_wp2_with fail
              refine Calls.mono HWH.out ?_
              rintro e9 w2 ⟨rfl, q9, rfl⟩
              have a1 : Chg (KLB kb s) w wr := HH.out.chg.mono (fun k _ h => by
                obtain ⟨e, he, hk⟩ := h
                exact .inr (.inr (.inr ⟨e, he, .inl hk⟩)))
              have HCF : Hid (Chg (KLB kb s) w (wr.drewN q9)) := a1.drewN q9
              clear a1 HWH HH
              go_wp2_with fail
              go_ret
              exact ⟨rfl, HCF.out⟩
set_option maxRecDepth 100000 in
set_option maxHeartbeats 1600000 in
theorem whole_late {L kb : Nat} {s : LS} (w : World) (hK : KL L kb s w) (hel : s.e.length ≤ 50000000000) :
    Calls Try.prog 46 #[.pointer (some ⟨kb, 0, none⟩)] w fun r w' => r = .returned (.bool true) ∧ Chg (KLB kb s) w w' := by
  have c0 : w.cell? ⟨kb, 0, none⟩ = some (.bool true) := hK.blk.cell 0
  have HL : Hid _ := lately_any w hK hel
  clear hK
  go_enter Try.func46, Try.ntmps46
  go_wp2_with fail
  refine Calls.mono HL.out ?_
  rintro e w2 ⟨rfl, hc⟩
  have HC : Hid _ := hc
  clear hc HL
  go_wp2_with fail
  go_ret
  exact ⟨rfl, HC.out⟩
end Go.Proofs.Ytcnokgphioigoaa.Sh
namespace Go.Proofs.Ytcnokgphioigoaa.Sh
open Go.RowKit Go.PlainAid
set_option linter.unusedVariables false
set_option linter.unusedSimpArgs false
set_option maxRecDepth 100000 in
set_option maxHeartbeats 1600000 in
/-- An answer is kept: written over at once, and grown. -/
theorem putB_any {L kb n : Nat} {s : ES} {l : Value} {xs : List Value} (w : World) (hK : KE L kb s w) (hl : w.ownsRow L 5 1 l n xs) (hap : ∀ g, l.ownBlock = some g → ¬ KB kb s g) (hn : n ≤ 1000000) (hel : s.e.length ≤ 1000000000000) :
    Calls Try.prog 67 #[.pointer (some ⟨kb, 0, none⟩), l] w fun r w' => r = .returned (.tuple #[]) ∧ ∃ s', KE L kb s' w' ∧ s'.e.length ≤ s.e.length + 18 ∧ Chg (fun k => KB kb s k ∨ l.ownBlock = some k) w w' ∧ ∀ k, KB kb s' k → KB kb s k ∨ l.ownBlock = some k ∨ w.heap.size ≤ k := by
  have hf := fillB_any (m := (s.e.length : Int)) w hl hn (by omega) (by omega)
  obtain ⟨mo, mc, hmm, _⟩ := own_slice hK.b.xm
  obtain ⟨lo, lc, hll, _⟩ := own_slice hl
  obtain ⟨ne, hne⟩ : ∃ ne, ne = s.e.length := ⟨_, rfl⟩
  rw [← hne] at hmm hf hel
  have c0 : w.cell? ⟨kb, 0, none⟩ = some (.bool false) := hK.blk.cell 0
  have c3 : w.cell? ⟨kb, 3, none⟩ = some (.slice mo ne mc) := by rw [← hmm]; exact hK.blk.cell 3
  have HK : Hid _ := hK
  have HAP : Hid _ := hap
  have HNE : Hid _ := hne
  clear hl hK hap hmm hne
  subst hll
  go_enter Try.func67, Try.ntmps67
  go_wp2_with fail
  refine hf.mono ?_
  rintro e w1 ⟨rfl, h1, hc1⟩
  have hK1 : KE L kb s w1 := HK.out.frame hc1 (fun k hk e => HAP.out k e hk)
  have hh := holdB_any (C := #[.bool false, s.vI, .slice none 0 0, s.vM]) w1 hK1.blk rfl hK1.b h1 (fun x hx g e q => HAP.out g e (.inr (.inr (.inr ⟨x, hx, q⟩)))) hn (by omega) (by omega) (by rw [← HNE.out]; exact hel) hK1.lk
  have HC1 : Hid _ := hc1
  have HK1 : Hid _ := hK1
  have H1 : Hid _ := h1
  clear hf h1 hc1 c0 c3 hK1
  go_wp2_with fail
  refine hh.mono ?_
  rintro e w2 ⟨rfl, v1, v2, far, es', hH, hle, _⟩
  obtain ⟨a1, a2, a3⟩ := HK1.out.heldB H1.out hel hH
  have HR : Hid (∃ s', KE L kb s' w2 ∧ s'.e.length ≤ s.e.length + 18 ∧ Chg (fun k => KB kb s k ∨ (Value.slice lo n lc).ownBlock = some k) w w2 ∧ ∀ k, KB kb s' k → KB kb s k ∨ (Value.slice lo n lc).ownBlock = some k ∨ w.heap.size ≤ k) := ⟨_, a1, by show es'.length ≤ _; omega, (HC1.out.mono (fun j _ e => .inr e)).trans a2 (fun j _ e => e), fun k hk => by
    have hsz := HC1.out.size
    rcases a3 k hk with q | q | q
    · exact .inl q
    · exact .inr (.inl q)
    · exact .inr (.inr (by omega))⟩
  clear hh hH a1 a2 a3
  go_wp2
  go_end0
  exact ⟨rfl, HR.out⟩
end Go.Proofs.Ytcnokgphioigoaa.Sh
namespace Go.Proofs.Ytcnokgphioigoaa.Sh
open Go.RowKit Go.PlainAid
set_option linter.unusedVariables false
set_option linter.unusedSimpArgs false
set_option maxRecDepth 100000 in
set_option maxHeartbeats 3200000 in
/-- An answer is kept: it is left as it is, beside what it was. -/
theorem put_lateB {L kb n : Nat} {s : LS} {l : Value} {zs : List Value} (w : World) (hK : KL L kb s w) (hl : w.ownsRow L 5 1 l n zs) (hg : goodB n zs) (hap : ∀ g, l.ownBlock = some g → ¬ KLB kb s g) (hn : n ≤ 1000000) (hel : s.e.length ≤ 1000000000000) :
    Calls Try.prog 67 #[.pointer (some ⟨kb, 0, none⟩), l] w fun r w' => r = .returned (.tuple #[]) ∧ ∃ s', KL L kb s' w' ∧ s'.e.length ≤ s.e.length + 18 ∧ Chg (fun k => KLB kb s k ∨ l.ownBlock = some k) w w' ∧ ∀ k, KLB kb s' k → KLB kb s k ∨ l.ownBlock = some k ∨ w.heap.size ≤ k := by
  obtain ⟨lo, lc, rfl, _⟩ := own_slice hl
  obtain ⟨vI, vW, es⟩ := s
  obtain ⟨io, ci, hii, _⟩ := own_slice hK.b.xi
  obtain ⟨wo, cw, hww, _⟩ := own_slice hK.b.xw
  simp only at hii hww hel
  obtain ⟨ne, hne⟩ : ∃ ne, ne = es.length := ⟨_, rfl⟩
  rw [← hne] at hii hww hel
  subst hii hww
  have hone : ∀ u ∈ zs, u.oneCell' = true := by obtain ⟨bs, _, rfl⟩ := hg; exact oneB bs
  obtain ⟨io1, ci1, w1, hr1, hB1, Y, hY, hBY, co, cc, w2, hr2, hB2, hB3, wo4, cw4, w4, hr4, hB4, W, hW, hBW, hLM, hcW, hbl⟩ := late_put (F := FB) (G := goodB) (cw := 2) (C0 := #[.bool true, .slice none 0 0, .slice none 0 0, .slice none 0 0]) w FB.ok (by decide) hne hK.blk hK.b hl hg hone (fun e he g e1 e2 => hap g e1 (.inr (.inr (.inr ⟨e, he, .inl e2⟩)))) hn hel hK.lk
  have c0 : w.cell? ⟨kb, 0, none⟩ = some (.bool true) := hK.blk.cell 0
  have c1 : w.cell? ⟨kb, 1, none⟩ = some (.slice io ne ci) := hK.blk.cell 1
  have d1 : w1.cell? ⟨kb, 1, none⟩ = some (.slice io ne ci) := hB1.cell 1
  have f1 : w1.frozen? ⟨kb, 1, none⟩ = false := hB1.frozen 1
  have HF : Hid (∃ s', KL L kb s' W ∧ s'.e.length ≤ es.length + 18 ∧ Chg (fun k => KLB kb ⟨.slice io ne ci, .slice wo ne cw, es⟩ k ∨ (Value.slice lo n lc).ownBlock = some k) w W ∧ ∀ k, KLB kb s' k → KLB kb ⟨.slice io ne ci, .slice wo ne cw, es⟩ k ∨ (Value.slice lo n lc).ownBlock = some k ∨ w.heap.size ≤ k) := by
    refine ⟨⟨.slice io1 (ne + 1) ci1, .slice wo4 (ne + 1) cw4, es ++ [⟨.slice lo n lc, .slice co n cc, n, zs⟩]⟩, ⟨hBW, hLM, hK.lk⟩, by simp, hcW.mono (fun k _ e => ?_), fun k hk => ?_⟩
    · rcases e with e | e | e
      · exact .inl (.inl e)
      · exact .inl (.inr (.inl e))
      · exact .inl (.inr (.inr (.inl e)))
    · rcases hk with q | q
      · exact .inl (.inl q)
      · rcases hbl k q with q | q | q
        · exact .inl (.inr q)
        · exact .inr (.inl q)
        · exact .inr (.inr q)
  have HR1 : Hid _ := hr1
  have HR2 : Hid _ := hr2
  have HR4 : Hid _ := hr4
  have HEY : Hid (Y = w1.setCell ⟨kb, 1, none⟩ (.slice io1 (ne + 1) ci1)) := hY
  have HEW : Hid (W = w4.setCell ⟨kb, 2, none⟩ (.slice wo4 (ne + 1) cw4)) := hW
  have HBY : Hid (Y.cell? ⟨kb, 2, none⟩ = some (.slice wo ne cw)) := hBY.cell 2
  have HB2 : Hid (w2.cell? ⟨kb, 2, none⟩ = some (.slice wo ne cw)) := hB2.cell 2
  have HB3 : Hid ((w2.alloc (.cells #[.slice co n cc] 38)).cell? ⟨kb, 2, none⟩ = some (.slice wo ne cw)) := hB3.cell 2
  have HB4 : Hid (w4.cell? ⟨kb, 2, none⟩ = some (.slice wo ne cw)) := hB4.cell 2
  have HF4 : Hid (w4.frozen? ⟨kb, 2, none⟩ = false) := hB4.frozen 2
  clear hl hK hap hr1 hr2 hr4 hY hW hBY hB1 hB2 hB3 hB4 hBW hLM hcW hbl hg hone hne hn
  go_enter Try.func67, Try.ntmps67
  go_upto_region 2 with (at_builtin; refine wpList_runs rfl _ _ 30 rfl rfl rfl HR1.out ?_)
  rw [← HEY.out]
  clear c0 c1 d1 f1 HR1 HEY
  go_wp2_with fail
  rename_i K hK
  try rw [show ∀ a : Act, a.put none undef = a from fun _ => rfl]
  refine wp_region_mix (fun wz => wz.cell? ⟨kb, 2, none⟩ = some (.slice wo ne cw)) (fun i => i == 6 || i == 7 || i == 8 || i == 11) 11 (by kernel_rfl) rfl (by kernel_rfl) (by kernel_rfl) (by kernel_rfl) ?_
  refine withFrP (N := 42) rfl ?_
  intro f0 F0 hff
  have e0 : f0 0 = Value.pointer (some ⟨kb, 0, none⟩) := hff 0
  have e1 : f0 1 = Value.slice lo n lc := hff 1
  clear hff
  have HCC : (fun wz => wz.cell? ⟨kb, 2, none⟩ = some (.slice wo ne cw)) (({ Y with drawn := Y.drawn + 1 } : World)) := HBY.out
  have HC2 : (fun wz => wz.cell? ⟨kb, 2, none⟩ = some (.slice wo ne cw)) w2 := HB2.out
  have HC3 : (fun wz => wz.cell? ⟨kb, 2, none⟩ = some (.slice wo ne cw)) (w2.alloc (.cells #[.slice co n cc] 38)) := HB3.out
  have HC6 : (fun wz => wz.cell? ⟨kb, 2, none⟩ = some (.slice wo ne cw)) w4 := HB4.out
  refine lyp F0 rfl HCC rfl (by omega) (wanted_none rfl) (v := Value.pointer (some ⟨kb, 0, none⟩)) (fun wr hwr => by simp only [execOp, (F0.eval 0 (by omega)).trans (show _ = Value.pointer (some ⟨kb, 0, none⟩) from by simp [upd, e0, e1])]; first | rfl | simp [go_sem]) fun Fp1 => ?_
  refine lyp Fp1 rfl HCC rfl (by omega) (wanted_none rfl) (v := Value.pointer (some ⟨kb, 0, none⟩)) (fun wr hwr => by simp only [execOp, (Fp1.eval 0 (by omega)).trans (show _ = Value.pointer (some ⟨kb, 0, none⟩) from by simp [upd, e0, e1])]; first | rfl | simp [go_sem]) fun Fp2 => ?_
  refine lyp Fp2 rfl HCC rfl (by omega) (wanted_none rfl) (v := Value.pointer (some ⟨kb, 0, none⟩)) (fun wr hwr => by simp only [execOp, (Fp2.eval 20 (by omega)).trans (show _ = Value.pointer (some ⟨kb, 0, none⟩) from by simp [upd, e0, e1])]; simp [go_sem]) fun Fp3 => ?_
  refine lyp Fp3 rfl HCC rfl (by omega) (wanted_none rfl) (v := Value.pointer (some ⟨kb, 2, none⟩)) (fun wr hwr => by simp only [execOp, (Fp3.eval 21 (by omega)).trans (show _ = Value.pointer (some ⟨kb, 0, none⟩) from by simp [upd, e0, e1])]; simp [go_sem]) fun Fp4 => ?_
  refine lyp Fp4 rfl HCC rfl (by omega) (wanted_none rfl) (v := Value.slice wo ne cw) (fun wr hwr => by simp only [execOp, (Fp4.eval 22 (by omega)).trans (show _ = Value.pointer (some ⟨kb, 2, none⟩) from by simp [upd, e0, e1])]; simp [go_sem, (show wr.cell? ⟨kb, 2, none⟩ = some (.slice wo ne cw) from hwr)]) fun Fp5 => ?_
  refine lyp Fp5 rfl HCC rfl (by omega) (wanted_none rfl) (v := Value.slice lo n lc) (fun wr hwr => by simp only [execOp, (Fp5.eval 1 (by omega)).trans (show _ = Value.slice lo n lc from by simp [upd, e0, e1])]; first | rfl | simp [go_sem]) fun Fp6 => ?_
  refine lep Fp6 rfl HCC rfl (by omega) (wanted_none rfl) (v := Value.slice co n cc) (w1 := w2) (by simp only [execOp, resolve, invoke, builtin, List.map_toArray, List.map_cons, List.map_nil, (Fp6.eval 24 (by omega)).trans (show _ = Value.slice lo n lc from by simp [upd, e0, e1])]; simp only [Sem.run_bind, Sem.run_pure, Result.andThen_ok, Act.eval, HR2.out]; try rfl) fun Fp7 => ?_
  refine lep Fp7 rfl HC2 rfl (by omega) (wanted_none rfl) (v := Value.slice (some ⟨w2.heap.size, 0, none⟩) 1 1) (w1 := (w2.alloc (.cells #[.slice co n cc] 38))) (by simp only [execOp, List.map_toArray, List.map_cons, List.map_nil, (Fp7.eval 25 (by omega)).trans (show _ = Value.slice co n cc from by simp [upd, e0, e1])]; simp [go_sem]) fun Fp8 => ?_
  refine lep Fp8 rfl HC3 rfl (by omega) (wanted_none rfl) (v := Value.slice wo4 (ne + 1) cw4) (w1 := w4) (by simp only [execOp, resolve, invoke, builtin, List.map_toArray, List.map_cons, List.map_nil, (Fp8.eval 23 (by omega)).trans (show _ = Value.slice wo ne cw from by simp [upd, e0, e1]), (Fp8.eval 26 (by omega)).trans (show _ = Value.slice (some ⟨w2.heap.size, 0, none⟩) 1 1 from by simp [upd, e0, e1])]; simp only [Sem.run_bind, Sem.run_pure, Result.andThen_ok, HR4.out]; try rfl) fun Fp9 => ?_
  refine lyp Fp9 rfl HC6 rfl (by omega) (wanted_none rfl) (v := Value.pointer (some ⟨kb, 0, none⟩)) (fun wr hwr => by simp only [execOp, (Fp9.eval 19 (by omega)).trans (show _ = Value.pointer (some ⟨kb, 0, none⟩) from by simp [upd, e0, e1])]; simp [go_sem]) fun Fp10 => ?_
  refine lyp Fp10 rfl HC6 rfl (by omega) (wanted_none rfl) (v := Value.pointer (some ⟨kb, 2, none⟩)) (fun wr hwr => by simp only [execOp, (Fp10.eval 28 (by omega)).trans (show _ = Value.pointer (some ⟨kb, 0, none⟩) from by simp [upd, e0, e1])]; simp [go_sem]) fun Fp11 => ?_
  refine lst rfl HC6 rfl (wanted_none rfl) (w1 := w4.setCell ⟨kb, 2, none⟩ (.slice wo4 (ne + 1) cw4)) (by simp only [execOp, (Fp11.eval 29 (by omega)).trans (show _ = Value.pointer (some ⟨kb, 2, none⟩) from by simp [upd, e0, e1]), (Fp11.eval 27 (by omega)).trans (show _ = Value.slice wo4 (ne + 1) cw4 from by simp [upd, e0, e1])]; simp [go_sem, HF4.out, show w4.cell? ⟨kb, 2, none⟩ = some (.slice wo ne cw) from HC6]) ?_
  refine ⟨fun h => by omega, ?_⟩
  rw [← HEW.out]
  refine hK _ _ ?_
  clear F0 Fp1 Fp2 Fp3 Fp4 Fp5 Fp6 Fp7 Fp8 Fp9 Fp10 Fp11 e0 e1 HCC HC2 HC3 HC6
  simp only [Act.put, List.setIfInBounds_toArray, List.set_cons_succ, List.set_cons_zero]
  clear HR2 HR4 HEW HBY HB2 HB3 HB4 HF4
  go_wp2_with fail
  refine bodyPost_ret (results_none rfl _ _ _) rfl ?_
  exact ⟨rfl, HF.out⟩
end Go.Proofs.Ytcnokgphioigoaa.Sh
