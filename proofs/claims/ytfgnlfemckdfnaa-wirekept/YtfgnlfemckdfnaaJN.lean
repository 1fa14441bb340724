import Derived.Deep.Cut
import Derived.Test.YtfgnlfemckdfnaaJL
import Derived.Test.YtfgnlfemckdfnaaJJ
import Derived.Test.YtfgnlfemckdfnaaJK
import Derived.Test.YtfgnlfemckdfnaaJM
namespace Go.Proofs.Ytfgnlfemckdfnaa.Sh
open Go.RowKit Go.PlainAid
set_option linter.unusedVariables false
set_option linter.unusedSimpArgs false
set_option maxRecDepth 100000 in
set_option maxHeartbeats 6400000 in
theorem lately_any {L kb : Nat} {s : LS} (w : World) (hK : KL L kb s w) (hel : s.e.length ≤ 50000000000) (hrl : s.r.length ≤ 50000000000) :
    Calls Try.prog 93 #[.pointer (some ⟨kb, 0, none⟩)] w fun r w' => r = .returned (.bool true) ∧ Chg (KLB kb s) w w' := by
  obtain ⟨vI, vW, vR, vX, es, rs⟩ := s
  obtain ⟨io, ci, hii, _⟩ := own_slice hK.b.xi
  obtain ⟨wo, cw, hww, _⟩ := own_slice hK.b.xw
  obtain ⟨ro, cr, hrr, _⟩ := own_slice hK.v.xi
  obtain ⟨xo, cx, hxx, _⟩ := own_slice hK.v.xw
  simp only at hii hww hrr hxx hel hrl
  obtain ⟨ne, hne⟩ : ∃ ne, ne = es.length := ⟨_, rfl⟩
  obtain ⟨nr, hnr⟩ : ∃ nr, nr = rs.length := ⟨_, rfl⟩
  rw [← hne] at hii hww hel
  rw [← hnr] at hrr hxx hrl
  subst hii hww hrr hxx
  have c1 : w.cell? ⟨kb, 1, none⟩ = some (.slice io ne ci) := hK.blk.cell 1
  have c2 : w.cell? ⟨kb, 2, none⟩ = some (.slice wo ne cw) := hK.blk.cell 2
  have c4 : w.cell? ⟨kb, 4, none⟩ = some (.slice ro nr cr) := hK.blk.cell 4
  have c5 : w.cell? ⟨kb, 5, none⟩ = some (.slice xo nr cx) := hK.blk.cell 5
  have HK : Hid _ := hK
  have HL : Hid _ := hK.lk'
  have HNE : Hid (ne = es.length) := hne
  have HNR : Hid (nr = rs.length) := hnr
  obtain ⟨s, hs⟩ : ∃ s : LS, s = ⟨.slice io ne ci, .slice wo ne cw, .slice ro nr cr, .slice xo nr cx, es, rs⟩ := ⟨_, rfl⟩
  have HSS : Hid (s = ⟨.slice io ne ci, .slice wo ne cw, .slice ro nr cr, .slice xo nr cx, es, rs⟩) := hs
  have hse : s.e = es := by rw [hs]
  have HSE : Hid (s.e = es) := hse
  have hsr : s.r = rs := by rw [hs]
  have HSR : Hid (s.r = rs) := hsr
  rw [← hs] at HK HL ⊢
  clear hK hne hnr hs hse hsr
  go_enter Try.func93, Try.ntmps93
  go_wp2_with fail
  go_loopw [3] (fun s wr => ∃ i q : Nat, i ≤ ne ∧ s = .int .i64 (i : Int) ∧ wr = w.drewN q) (fun s _ => ne - (intOf s).toNat)
  case atStart => exact ⟨0, 0, Nat.zero_le _, rfl, rfl⟩
  case round =>
    obtain ⟨i, q, hie, rfl, rfl⟩ := hrel
    have c1' : (w.drewN q).cell? ⟨kb, 1, none⟩ = some (.slice io ne ci) := c1
    by_cases hi : i < ne
    · obtain ⟨e, he⟩ : ∃ e, es[i]? = some e := ⟨es[i]'(by rw [← HNE.out]; exact hi), List.getElem?_eq_getElem _⟩
      have hem : e ∈ s.e := by rw [HSE.out]; exact List.mem_of_getElem? he
      obtain ⟨el, ew, ln, zs⟩ := e
      have hl := HK.out.b.el _ hem
      have hw := HK.out.b.ew _ hem
      have hzl := HK.out.b.ln _ hem
      have hgd := HK.out.b.gd _ hem
      simp only at hl hw hzl hgd
      obtain ⟨bs, hbl, rfl⟩ := hgd
      obtain ⟨lo, lc, hll, _⟩ := own_slice hl
      obtain ⟨vo, vc, hvv, _⟩ := own_slice hw
      subst hll hvv
      have hf1 := ownB_from hl
      have hf2 := ownB_from hw
      have xi := HK.out.b.xi
      have xw := HK.out.b.xw
      rw [HSS.out] at xi xw
      simp only at xi xw
      rw [← HNE.out] at xi xw
      obtain ⟨gi, rfl⟩ := row_ptr xi (by omega)
      obtain ⟨gw, rfl⟩ := row_ptr xw (by omega)
      have d2 : w.cell? ⟨gi, i, none⟩ = some (.slice lo ln lc) := row_cell xi (by rw [List.getElem?_map, he]; rfl)
      have d4 : w.cell? ⟨gw, i, none⟩ = some (.slice vo ln vc) := row_cell xw (by rw [List.getElem?_map, he]; rfl)
      have f1 : (w.drewN q).cell? ⟨kb, 1, none⟩ = some (.slice (some ⟨gi, 0, none⟩) ne ci) := c1
      have f2 : (w.drewN q).cell? ⟨gi, i, none⟩ = some (.slice lo ln lc) := d2
      have f3 : (w.drewN q).cell? ⟨kb, 2, none⟩ = some (.slice (some ⟨gw, 0, none⟩) ne cw) := c2
      have f4 : (w.drewN q).cell? ⟨gw, i, none⟩ = some (.slice vo ln vc) := d4
      have hk1 := fun n => alike_any lo vo ln ln lc vc bs bs ((w.drewN q).drewN n) hbl hbl (show From ((w.drewN q).drewN n) lo bs from hf1) (show From ((w.drewN q).drewN n) vo bs from hf2)
      simp only [decide_true] at hk1
      clear hl hw xi xw he hem hf1 hf2 hbl
      obtain ⟨wz, hwz⟩ : ∃ wz, wz = w.drewN q := ⟨_, rfl⟩
      rw [← hwz] at f1 f2 f3 f4 hk1 c1' ⊢
      have HWZ : Hid _ := hwz
      have HQ : Hid _ := hk1
      clear hk1 hwz
      go_wp2_with fail
      go_quiet (first | (go_at_call 15; exact Calls.quiet_of_same (HQ.out _)) | fail)
      go_wp2_with fail
      go_roundw
      case rel => exact ⟨i + 1, _, by omega, by go_num, by rw [HWZ.out, World.drewN_drewN]⟩
      case measure => simp [intOf]; omega
    · clear c1'
      go_wp2_with fail
      go_loopw [4] (fun s wr => ∃ i q : Nat, i ≤ nr ∧ s = .int .i64 (i : Int) ∧ wr = w.drewN q) (fun s _ => nr - (intOf s).toNat)
      case atStart => exact ⟨0, q, Nat.zero_le _, rfl, rfl⟩
      case round =>
        obtain ⟨i, q, hie, rfl, rfl⟩ := hrel
        have c1' : (w.drewN q).cell? ⟨kb, 4, none⟩ = some (.slice ro nr cr) := c4
        by_cases hi : i < nr
        · obtain ⟨e, he⟩ : ∃ e, rs[i]? = some e := ⟨rs[i]'(by rw [← HNR.out]; exact hi), List.getElem?_eq_getElem _⟩
          have hem : e ∈ s.r := by rw [HSR.out]; exact List.mem_of_getElem? he
          obtain ⟨el, ew, ln, zs⟩ := e
          have hl := HK.out.v.el _ hem
          have hw := HK.out.v.ew _ hem
          have hzl := HK.out.v.ln _ hem
          have hgd := HK.out.v.gd _ hem
          simp only at hl hw hzl hgd
          obtain ⟨bs, hbl, rfl⟩ := hgd
          obtain ⟨lo, lc, hll, _⟩ := own_slice hl
          obtain ⟨vo, vc, hvv, _⟩ := own_slice hw
          subst hll hvv
          have hf1 := ownV_from hl
          have hf2 := ownV_from hw
          have xi := HK.out.v.xi
          have xw := HK.out.v.xw
          rw [HSS.out] at xi xw
          simp only at xi xw
          rw [← HNR.out] at xi xw
          obtain ⟨gi, rfl⟩ := row_ptr xi (by omega)
          obtain ⟨gw, rfl⟩ := row_ptr xw (by omega)
          have d2 : w.cell? ⟨gi, i, none⟩ = some (.slice lo ln lc) := row_cell xi (by rw [List.getElem?_map, he]; rfl)
          have d4 : w.cell? ⟨gw, i, none⟩ = some (.slice vo ln vc) := row_cell xw (by rw [List.getElem?_map, he]; rfl)
          have f1 : (w.drewN q).cell? ⟨kb, 4, none⟩ = some (.slice (some ⟨gi, 0, none⟩) nr cr) := c4
          have f2 : (w.drewN q).cell? ⟨gi, i, none⟩ = some (.slice lo ln lc) := d2
          have f3 : (w.drewN q).cell? ⟨kb, 5, none⟩ = some (.slice (some ⟨gw, 0, none⟩) nr cx) := c5
          have f4 : (w.drewN q).cell? ⟨gw, i, none⟩ = some (.slice vo ln vc) := d4
          have hk1 := fun n => sameV_eq (ca := lc) (cb := vc) ((w.drewN q).drewN n) hbl (show VFrom ((w.drewN q).drewN n) lo bs from hf1) (show VFrom ((w.drewN q).drewN n) vo bs from hf2) hzl
          have := hzl
          clear hl hw xi xw he hem hf1 hf2 hbl
          obtain ⟨wz, hwz⟩ : ∃ wz, wz = w.drewN q := ⟨_, rfl⟩
          rw [← hwz] at f1 f2 f3 f4 hk1 c1' ⊢
          have HWZ : Hid _ := hwz
          have HQ : Hid _ := hk1
          clear hk1 hwz
          go_wp2_with fail
          go_quiet (first | (go_at_call 33; exact Calls.quiet_of (HQ.out _)) | fail)
          go_wp2_with fail
          go_roundw
          case rel => exact ⟨i + 1, _, by omega, by go_num, by rw [HWZ.out, World.drewN_drewN]⟩
          case measure => simp [intOf]; omega
        · clear c1'
          have hbw : Below w.heap.size w (w.drewN q) := below_drewN (Below.refl _ _) q
          have c1' : (w.drewN q).cell? ⟨kb, 4, none⟩ = some (.slice ro nr cr) := c4
          generalize w.drewN q = wr at *
          obtain ⟨tb, htb⟩ : ∃ tb, tb = wr.heap.size := ⟨_, rfl⟩
          obtain ⟨X, hX⟩ : ∃ X, X = wr.alloc (.cells #[.bool false, .slice none 0 0, .slice none 0 0, .slice none 0 0, .slice none 0 0, .slice none 0 0, .slice none 0 0] 71) := ⟨_, rfl⟩
          have hLw : L ≤ wr.heap.size := Nat.le_trans (Nat.le_trans HK.out.lk (Nat.le_of_lt HL.out.kl)) hbw.size
          have hbX : Below w.heap.size w X := by rw [hX]; exact hbw.alloc hbw.size _
          have hKX := HK.out.frame (Chg.ofBelow (fun _ => False) hbX) (fun _ _ e => e)
          have hBT : Blk X tb #[.bool false, .slice none 0 0, .slice none 0 0, .slice none 0 0, .slice none 0 0, .slice none 0 0, .slice none 0 0] 71 := by rw [hX, htb]; exact heap_alloc_new wr _
          have HLT : ∀ k, LO s k → k < w.heap.size := fun k h => by
            rcases h with ⟨e, he, hk⟩ | ⟨e, he, hk⟩
            · exact (ownsRow_lt (HK.out.b.el e he) hk).2
            · exact (ownsRow_lt (HK.out.v.el e he) hk).2
          have HF0 : Hid (LF L kb s w tb 0 0 X) := ⟨hKX.blk, ⟨hKX.b.xi, (fun j e he hj => by omega), (fun j e he _ => hKX.b.el e (List.mem_of_getElem? he))⟩, ⟨hKX.v.xi, (fun j e he hj => by omega), (fun j e he _ => hKX.v.el e (List.mem_of_getElem? he))⟩, KE.new hBT (by omega), Chg.ofBelow _ hbX, HLT, by have := hbw.size; omega⟩
          have HEX : Hid (X = wr.alloc (.cells #[.bool false, .slice none 0 0, .slice none 0 0, .slice none 0 0, .slice none 0 0, .slice none 0 0, .slice none 0 0] 71)) := hX
          have HET : Hid (tb = wr.heap.size) := htb
          clear hLw hbX hKX hBT hX htb HLT
          go_upto_region 12 with fail
          rw [← HEX.out, ← HET.out]
          clear HEX HET c1' hbw
          go_wp2_with fail
          go_loopw [6] (fun x wr => ∃ j : Nat, j ≤ ne ∧ x = .int .i64 (j : Int) ∧ LF L kb s w tb j 0 wr) (fun x _ => ne - (intOf x).toNat)
          case atStart => exact ⟨0, Nat.zero_le _, rfl, HF0.out⟩
          case round =>
            clear HF0
            obtain ⟨j, hje, rfl, hF⟩ := hrel
            have HF : Hid _ := hF
            have e1 : wr.cell? ⟨kb, 1, none⟩ = some (.slice io ne ci) := by have := hF.blk.cell 1; rw [HSS.out] at this; exact this
            clear hF
            by_cases hj : j < ne
            · obtain ⟨e, he⟩ : ∃ e, s.e[j]? = some e := ⟨s.e[j]'(by rw [HSE.out, ← HNE.out]; exact hj), List.getElem?_eq_getElem _⟩
              obtain ⟨el, ew, ln, zs⟩ := e
              have hzl := HK.out.b.ln _ (List.mem_of_getElem? he)
              have hre := HF.out.b.re j _ he (Nat.le_refl _)
              simp only at hzl hre
              have xi := HF.out.b.xi
              rw [HSS.out] at xi
              simp only at xi
              rw [← HNE.out] at xi
              obtain ⟨gi, rfl⟩ := row_ptr xi (by omega)
              obtain ⟨lo, lc, hll, _⟩ := own_slice hre
              subst hll
              have d2 : wr.cell? ⟨gi, j, none⟩ = some (.slice lo ln lc) := row_cell xi (by rw [List.getElem?_map, ← HSE.out, he]; rfl)
              have HFI : Hid _ := fillB_any (m := (j : Int)) wr hre (by omega) (by omega) (by omega)
              have HST : Hid _ := fun w2 => HF.out.stepB (w2 := w2) HL.out he
              simp only at HST
              clear he hre xi
              go_wp2_with fail
              refine Calls.mono HFI.out ?_
              rintro e9 w2 ⟨rfl, hr2, hc2⟩
              have HF2 : Hid _ := HST.out w2 hr2 hc2
              clear hr2 hc2 HFI HF d2 HST
              go_wp2_with fail
              go_roundw
              case rel => exact ⟨j + 1, by omega, by go_num, HF2.out⟩
              case measure => simp [intOf]; omega
            · have hjn : j = s.e.length := by have := HNE.out; rw [HSE.out]; omega
              have HF0 : Hid (LF L kb s w tb s.e.length 0 wr) := by
                have := HF.out
                rw [hjn] at this
                exact this
              clear HF hjn
              go_wp2_with fail
              go_loopw [7] (fun x wr => ∃ j : Nat, j ≤ nr ∧ x = .int .i64 (j : Int) ∧ LF L kb s w tb s.e.length j wr) (fun x _ => nr - (intOf x).toNat)
              case atStart => exact ⟨0, Nat.zero_le _, rfl, HF0.out⟩
              case round =>
                clear HF0
                obtain ⟨j, hje, rfl, hF⟩ := hrel
                have HF : Hid _ := hF
                have e1 : wr.cell? ⟨kb, 4, none⟩ = some (.slice ro nr cr) := by have := hF.blk.cell 4; rw [HSS.out] at this; exact this
                clear hF
                by_cases hj : j < nr
                · obtain ⟨e, he⟩ : ∃ e, s.r[j]? = some e := ⟨s.r[j]'(by rw [HSR.out, ← HNR.out]; exact hj), List.getElem?_eq_getElem _⟩
                  obtain ⟨el, ew, ln, zs⟩ := e
                  have hzl := HK.out.v.ln _ (List.mem_of_getElem? he)
                  have hre := HF.out.v.re j _ he (Nat.le_refl _)
                  simp only at hzl hre
                  have xi := HF.out.v.xi
                  rw [HSS.out] at xi
                  simp only at xi
                  rw [← HNR.out] at xi
                  obtain ⟨gi, rfl⟩ := row_ptr xi (by omega)
                  obtain ⟨lo, lc, hll, _⟩ := own_slice hre
                  subst hll
                  have d2 : wr.cell? ⟨gi, j, none⟩ = some (.slice lo ln lc) := row_cell xi (by rw [List.getElem?_map, ← HSR.out, he]; rfl)
                  have HFI : Hid _ := fillV_any (m := (j : Int)) wr hre (by omega) (by omega) (by omega)
                  have HST : Hid _ := fun w2 => HF.out.stepV (w2 := w2) HL.out he
                  simp only at HST
                  clear he hre xi
                  go_wp2_with fail
                  refine Calls.mono HFI.out ?_
                  rintro e9 w2 ⟨rfl, hr2, hc2⟩
                  have HF2 : Hid _ := HST.out w2 hr2 hc2
                  clear hr2 hc2 HFI HF d2 HST
                  go_wp2_with fail
                  go_roundw
                  case rel => exact ⟨j + 1, by omega, by go_num, HF2.out⟩
                  case measure => simp [intOf]; omega
                · have hjn : j = s.r.length := by have := HNR.out; rw [HSR.out]; omega
                  have HH0 : Hid (LH L kb s w tb 0 0 ES0 wr) := by
                    have := HF.out
                    rw [hjn] at this
                    exact this.held
                  clear HF hjn
                  go_wp2_with fail
                  go_loopw [8] (fun x wr => ∃ j : Nat, j ≤ ne ∧ x = .int .i64 (j : Int) ∧ ∃ t, LH L kb s w tb j 0 t wr) (fun x _ => ne - (intOf x).toNat)
                  case atStart => exact ⟨0, Nat.zero_le _, rfl, _, HH0.out⟩
                  case round =>
                    clear HH0
                    obtain ⟨j, hje, rfl, t, hH⟩ := hrel
                    have HH : Hid _ := hH
                    have e1 : wr.cell? ⟨kb, 1, none⟩ = some (.slice io ne ci) := by have := hH.blk.cell 1; rw [HSS.out] at this; exact this
                    clear hH
                    by_cases hj : j < ne
                    · obtain ⟨e, he⟩ : ∃ e, s.e[j]? = some e := ⟨s.e[j]'(by rw [HSE.out, ← HNE.out]; exact hj), List.getElem?_eq_getElem _⟩
                      obtain ⟨el, ew, ln, zs⟩ := e
                      have hzl := HK.out.b.ln _ (List.mem_of_getElem? he)
                      have hre := HH.out.b.fu j _ he (Nat.le_refl _)
                      simp only at hzl hre
                      have xi := HH.out.b.xi
                      rw [HSS.out] at xi
                      simp only at xi
                      rw [← HNE.out] at xi
                      obtain ⟨gi, rfl⟩ := row_ptr xi (by omega)
                      obtain ⟨lo, lc, hll, _⟩ := own_slice hre
                      subst hll
                      have d2 : wr.cell? ⟨gi, j, none⟩ = some (.slice lo ln lc) := row_cell xi (by rw [List.getElem?_map, ← HSE.out, he]; rfl)
                      have hno := HH.out.noB HL.out he
                      simp only at hno
                      have HHO : Hid _ := holdB_any (m := (j : Int)) (C := #[.bool false, t.vI, .slice none 0 0, t.vM, t.vR, .slice none 0 0, t.vN]) wr HH.out.tk.blk rfl HH.out.tk.b hre (fun x hx g h1 h2 => hno g h1 (.inr (.inl (.inr (.inr ⟨x, hx, h2⟩))))) hzl (by omega) (by omega) (by have := HH.out.cn1; omega) HH.out.tk.lk
                      have HST : Hid (∀ (v1 v2 far : Value) (ls2 : List Ent) (w2 : World), HS FB L tb #[.bool false, t.vI, .slice none 0 0, t.vM, t.vR, .slice none 0 0, t.vN] t.vI t.vM (.slice lo ln lc) t.e wr v1 v2 far ls2 ls2 (ln + 40) j w2 → ls2.length ≤ t.e.length + 18 → ∃ t', LH L kb s w tb (j + 1) 0 t' w2) := fun v1 v2 far ls2 w2 hS hle => by
                        obtain ⟨a1, a2, a3⟩ := HH.out.tk.heldB hre (by omega) hS
                        exact ⟨_, HH.out.stepB HL.out he a1 a2 a3 hle (Nat.le_refl _)⟩
                      clear he hre xi hno
                      go_wp2_with fail
                      refine Calls.mono HHO.out ?_
                      rintro e9 w2 ⟨rfl, u1, u2, far, ls2, hS2, hle2, _⟩
                      have HH2 : Hid _ := HST.out u1 u2 far ls2 w2 hS2 hle2
                      clear hS2 hle2 HHO HH d2 HST
                      go_wp2_with fail
                      go_roundw
                      case rel => exact ⟨j + 1, by omega, by go_num, HH2.out⟩
                      case measure => simp [intOf]; omega
                    · have hjn : j = s.e.length := by have := HNE.out; rw [HSE.out]; omega
                      have HH0 : Hid (LH L kb s w tb s.e.length 0 t wr) := by
                        have := HH.out
                        rw [hjn] at this
                        exact this
                      clear HH hjn
                      go_wp2_with fail
                      go_loopw [9] (fun x wr => ∃ j : Nat, j ≤ nr ∧ x = .int .i64 (j : Int) ∧ ∃ t, LH L kb s w tb s.e.length j t wr) (fun x _ => nr - (intOf x).toNat)
                      case atStart => exact ⟨0, Nat.zero_le _, rfl, _, HH0.out⟩
                      case round =>
                        clear HH0
                        obtain ⟨j, hje, rfl, t, hH⟩ := hrel
                        have HH : Hid _ := hH
                        have e1 : wr.cell? ⟨kb, 4, none⟩ = some (.slice ro nr cr) := by have := hH.blk.cell 4; rw [HSS.out] at this; exact this
                        clear hH
                        by_cases hj : j < nr
                        · obtain ⟨e, he⟩ : ∃ e, s.r[j]? = some e := ⟨s.r[j]'(by rw [HSR.out, ← HNR.out]; exact hj), List.getElem?_eq_getElem _⟩
                          obtain ⟨el, ew, ln, zs⟩ := e
                          have hzl := HK.out.v.ln _ (List.mem_of_getElem? he)
                          have hre := HH.out.v.fu j _ he (Nat.le_refl _)
                          simp only at hzl hre
                          have xi := HH.out.v.xi
                          rw [HSS.out] at xi
                          simp only at xi
                          rw [← HNR.out] at xi
                          obtain ⟨gi, rfl⟩ := row_ptr xi (by omega)
                          obtain ⟨lo, lc, hll, _⟩ := own_slice hre
                          subst hll
                          have d2 : wr.cell? ⟨gi, j, none⟩ = some (.slice lo ln lc) := row_cell xi (by rw [List.getElem?_map, ← HSR.out, he]; rfl)
                          have hno := HH.out.noV HL.out he
                          simp only at hno
                          have HHO : Hid _ := holdV_any (m := (j : Int)) (C := #[.bool false, t.vI, .slice none 0 0, t.vM, t.vR, .slice none 0 0, t.vN]) wr HH.out.tk.blk rfl HH.out.tk.v hre (fun x hx g h1 h2 => hno g h1 (.inr (.inr (.inr (.inr ⟨x, hx, h2⟩))))) hzl (by omega) (by omega) (by have := HH.out.cn2; omega) HH.out.tk.lk
                          have HST : Hid (∀ (v1 v2 far : Value) (ls2 : List Ent) (w2 : World), HS FV L tb #[.bool false, t.vI, .slice none 0 0, t.vM, t.vR, .slice none 0 0, t.vN] t.vR t.vN (.slice lo ln lc) t.r wr v1 v2 far ls2 ls2 (ln + 40) j w2 → ls2.length ≤ t.r.length + 18 → ∃ t', LH L kb s w tb s.e.length (j + 1) t' w2) := fun v1 v2 far ls2 w2 hS hle => by
                            obtain ⟨a1, a2, a3⟩ := HH.out.tk.heldV hre (by omega) hS
                            exact ⟨_, HH.out.stepV HL.out he a1 a2 a3 hle (Nat.le_refl _)⟩
                          clear he hre xi hno
                          go_wp2_with fail
                          refine Calls.mono HHO.out ?_
                          rintro e9 w2 ⟨rfl, u1, u2, far, ls2, hS2, hle2, _⟩
                          have HH2 : Hid _ := HST.out u1 u2 far ls2 w2 hS2 hle2
                          clear hS2 hle2 HHO HH d2 HST
                          go_wp2_with fail
                          go_roundw
                          case rel => exact ⟨j + 1, by omega, by go_num, HH2.out⟩
                          case measure => simp [intOf]; omega
                        · have HWH : Hid _ := whole_early wr HH.out.tk
                          go_wp2_with fail
                          refine Calls.mono HWH.out ?_
                          rintro e9 w2 ⟨rfl, q9, rfl⟩
                          have a1 : Chg (KLB kb s) w wr := HH.out.chg.mono (fun k _ h => by
                            rcases h with ⟨e, he, hk⟩ | ⟨e, he, hk⟩
                            · exact .inr (.inl (.inr (.inr ⟨e, he, .inl hk⟩)))
                            · exact .inr (.inr (.inr (.inr ⟨e, he, .inl hk⟩))))
                          have HCF : Hid (Chg (KLB kb s) w (wr.drewN q9)) := a1.drewN q9
                          clear a1 HWH HH
                          go_wp2_with fail
                          go_ret
                          exact ⟨rfl, HCF.out⟩
set_option maxRecDepth 100000 in
set_option maxHeartbeats 1600000 in
theorem whole_late {L kb : Nat} {s : LS} (w : World) (hK : KL L kb s w) (hel : s.e.length ≤ 50000000000) (hrl : s.r.length ≤ 50000000000) :
    Calls Try.prog 65 #[.pointer (some ⟨kb, 0, none⟩)] w fun r w' => r = .returned (.bool true) ∧ Chg (KLB kb s) w w' := by
  have c0 : w.cell? ⟨kb, 0, none⟩ = some (.bool true) := hK.blk.cell 0
  have HL : Hid _ := lately_any w hK hel hrl
  clear hK
  go_enter Try.func65, Try.ntmps65
  go_wp2_with fail
  refine Calls.mono HL.out ?_
  rintro e w2 ⟨rfl, hc⟩
  have HC : Hid _ := hc
  clear hc HL
  go_wp2_with fail
  go_ret
  exact ⟨rfl, HC.out⟩
end Go.Proofs.Ytfgnlfemckdfnaa.Sh
namespace Go.Proofs.Ytfgnlfemckdfnaa.Sh
open Go.RowKit Go.PlainAid
set_option linter.unusedVariables false
set_option linter.unusedSimpArgs false
structure Keeper (σ : Type) (L kb : Nat) where
  Inv : σ → World → Prop
  bl : σ → Nat → Prop
  cnt : σ → Nat
  lt : ∀ {s w k}, Inv s w → bl s k → L ≤ k ∧ k < w.heap.size
  low : ∀ {s w}, Inv s w → L ≤ w.heap.size
  frame : ∀ {s w w2} {B : Nat → Prop}, Inv s w → Chg B w w2 → (∀ k, bl s k → ¬ B k) → Inv s w2
  putB : ∀ {s w l n} {bs : List UInt8}, Inv s w → w.ownsRow L 5 1 l n (bs.map B) → (∀ g, l.ownBlock = some g → ¬ bl s g) → n ≤ 1000000 → cnt s ≤ 1000000000000 →
    Calls Try.prog 62 #[.pointer (some ⟨kb, 0, none⟩), l] w fun r w' => r = .returned (.tuple #[]) ∧ ∃ s', Inv s' w' ∧ cnt s' ≤ cnt s + 18 ∧ Chg (fun k => bl s k ∨ l.ownBlock = some k) w w' ∧ ∀ k, bl s' k → bl s k ∨ l.ownBlock = some k ∨ w.heap.size ≤ k
  putV : ∀ {s w l n} {vs : List View}, Inv s w → w.ownsRow L 112 7 l n (cellsOf vs) → (∀ g, l.ownBlock = some g → ¬ bl s g) → n ≤ 1000000 → cnt s ≤ 1000000000000 →
    Calls Try.prog 63 #[.pointer (some ⟨kb, 0, none⟩), l] w fun r w' => r = .returned (.tuple #[]) ∧ ∃ s', Inv s' w' ∧ cnt s' ≤ cnt s + 18 ∧ Chg (fun k => bl s k ∨ l.ownBlock = some k) w w' ∧ ∀ k, bl s' k → bl s k ∨ l.ownBlock = some k ∨ w.heap.size ≤ k
  whole : ∀ {s w}, Inv s w → cnt s ≤ 50000000000 → Calls Try.prog 65 #[.pointer (some ⟨kb, 0, none⟩)] w fun r w' => r = .returned (.bool true) ∧ Chg (bl s) w w'
def early (L kb : Nat) : Keeper ES L kb where
  Inv s w := KE L kb s w
  bl s := KB kb s
  cnt s := s.e.length + s.r.length
  lt h hk := h.lt hk
  low h := Nat.le_trans h.lk (Nat.le_of_lt h.blk.lt)
  frame h hc hB := h.frame hc hB
  putB h hl hap hn hc := putB_any _ h hl hap hn (by omega)
  putV h hl hap hn hc := putV_any _ h hl hap hn (by omega)
  whole h hc := (whole_early _ h).mono fun r w' ⟨h1, q, h2⟩ => ⟨h1, by rw [h2]; exact (Chg.refl _ _).drewN q⟩
def late (L kb : Nat) : Keeper LS L kb where
  Inv s w := KL L kb s w
  bl s := KLB kb s
  cnt s := s.e.length + s.r.length
  lt h hk := h.lt hk
  low h := Nat.le_trans h.lk (Nat.le_of_lt h.blk.lt)
  frame h hc hB := h.frame hc hB
  putB {s w l n bs} h hl hap hn hc := put_lateB _ h hl ⟨bs, by have := hl.1; simpa using this, rfl⟩ hap hn (by omega)
  putV {s w l n vs} h hl hap hn hc := put_lateV _ h hl ⟨vs, by have := hl.1; rw [cellsOf_len] at this; omega, rfl⟩ hap hn (by omega)
  whole h hc := whole_late _ h (by omega) (by omega)
structure LV {σ : Type} {kb : Nat} {w : World} (K : Keeper σ w.heap.size kb) (s : σ) (c : Nat) (X : List (Value × World)) (W : World) : Prop where
  inv : K.Inv s W
  cnt : K.cnt s ≤ c
  bel : Below w.heap.size w W
  liv : ∀ p ∈ X, ∀ g, p.1.ownBlock = some g → g < W.heap.size ∧ W.heap[g]? = p.2.heap[g]? ∧ ¬ K.bl s g
  dj : X.Pairwise fun p q => ∀ g, p.1.ownBlock = some g → q.1.ownBlock ≠ some g
section
variable {σ : Type} {kb : Nat} {w : World} {K : Keeper σ w.heap.size kb} {s : σ} {c : Nat} {X Y Y1 Y2 : List (Value × World)} {W W' : World}
theorem LV.up (h : LV K s c X W) (hb : Below W.heap.size W W') : LV K s c X W' :=
  ⟨K.frame h.inv (Chg.ofBelow (fun _ => False) hb) (fun _ _ e => e), h.cnt, h.bel.trans (hb.mono (K.low h.inv)), fun p hp g e => by
    obtain ⟨h1, h2, h3⟩ := h.liv p hp g e
    exact ⟨Nat.lt_of_lt_of_le h1 hb.size, (hb.block g h1).trans h2, h3⟩, h.dj⟩
theorem LV.new (h : LV K s c X W) (hb : Below W.heap.size W W') (v : Value) (hv : ∀ g, v.ownBlock = some g → W.heap.size ≤ g ∧ g < W'.heap.size) : LV K s c ((v, W') :: X) W' := by
  have h' := h.up hb
  refine ⟨h'.inv, h'.cnt, h'.bel, fun p hp g e => ?_, List.pairwise_cons.2 ⟨fun p hp g e e2 => ?_, h.dj⟩⟩
  · rcases List.mem_cons.1 hp with q | q
    · subst q
      exact ⟨(hv g e).2, rfl, fun hk => by have := (K.lt h.inv hk).2; have := (hv g e).1; omega⟩
    · exact h'.liv p q g e
  · have := (h.liv p hp g e2).1
    have := (hv g e).1
    omega
theorem LV.sub (h : LV K s c X W) (hs : List.Sublist Y X) : LV K s c Y W := ⟨h.inv, h.cnt, h.bel, fun p hp => h.liv p (hs.subset hp), h.dj.sublist hs⟩
theorem LV.row {L1 t z n : Nat} {v : Value} {V : World} {xs : List Value} (h : LV K s c X W) (hp : (v, V) ∈ X) (hr : V.ownsRow L1 t z v n xs) : W.ownsRow L1 t z v n xs := ownsRow_same hr (fun g e => (h.liv _ hp g e).2.1)
theorem LV.blk {g t : Nat} {C : Array Value} {V : World} (h : LV K s c X W) (hp : (Value.slice (some ⟨g, 0, none⟩) 0 0, V) ∈ X) (hr : Blk V g C t) : Blk W g C t := (h.liv _ hp g rfl).2.1.trans hr
theorem LV.after {l : Value} {V : World} (h : LV K s c (Y1 ++ (l, V) :: Y2) W) {s' : σ} (hlo : ∀ g, l.ownBlock = some g → w.heap.size ≤ g) (hi : K.Inv s' W') (hc : K.cnt s' ≤ K.cnt s + 18) (hch : Chg (fun k => K.bl s k ∨ l.ownBlock = some k) W W') (hbl : ∀ k, K.bl s' k → K.bl s k ∨ l.ownBlock = some k ∨ W.heap.size ≤ k) : LV K s' (c + 18) (Y1 ++ Y2) W' := by
  have hsub : List.Sublist (Y1 ++ Y2) (Y1 ++ (l, V) :: Y2) := List.Sublist.append_left (List.sublist_cons_self _ _) _
  have hap : ∀ p ∈ Y1 ++ Y2, ∀ g, p.1.ownBlock = some g → l.ownBlock ≠ some g := fun p hp g e e2 => by
    obtain ⟨_, h2, h3⟩ := List.pairwise_append.1 h.dj
    rcases List.mem_append.1 hp with q | q
    · exact h3 p q _ (List.mem_cons_self ..) g e e2
    · exact (List.pairwise_cons.1 h2).1 p q g e2 e
  refine ⟨hi, by have := h.cnt; omega, h.bel.trans (hch.below (K.low h.inv) (fun k hk => by rcases hk with q | q; exact (K.lt h.inv q).1; exact hlo k q)), fun p hp g e => ?_, h.dj.sublist hsub⟩
  obtain ⟨h1, h2, h3⟩ := h.liv p (hsub.subset hp) g e
  refine ⟨Nat.lt_of_lt_of_le h1 hch.size, (hch.block g h1 (fun q => ?_)).trans h2, fun q => ?_⟩
  · rcases q with q | q
    · exact h3 q
    · exact hap p hp g e q
  · rcases hbl g q with q | q | q
    · exact h3 q
    · exact hap p hp g e q
    · omega
theorem LV.putB (Y1 Y2 : List (Value × World)) {l : Value} {V : World} (h : LV K s c (Y1 ++ (l, V) :: Y2) W) {L1 n : Nat} {bs : List UInt8} (hc : c ≤ 1000000000000) (hL : w.heap.size ≤ L1) (hl : V.ownsRow L1 5 1 l n (bs.map B)) (hn : n ≤ 1000000) :
    Calls Try.prog 62 #[.pointer (some ⟨kb, 0, none⟩), l] W fun r w' => r = .returned (.tuple #[]) ∧ ∃ s', LV K s' (c + 18) (Y1 ++ Y2) w' := by
  have hm : (l, V) ∈ Y1 ++ (l, V) :: Y2 := List.mem_append_right _ (List.mem_cons_self ..)
  have hl2 := ownsRow_mono (h.row hm hl) hL
  exact (K.putB h.inv hl2 (fun g e => (h.liv _ hm g e).2.2) hn (Nat.le_trans h.cnt hc)).mono fun r w' ⟨h0, s', h1, h2, h3, h4⟩ => ⟨h0, s', h.after (fun g e => (ownsRow_lt hl2 e).1) h1 h2 h3 h4⟩
theorem LV.putV (Y1 Y2 : List (Value × World)) {l : Value} {V : World} (h : LV K s c (Y1 ++ (l, V) :: Y2) W) {L1 n : Nat} {vs : List View} (hc : c ≤ 1000000000000) (hL : w.heap.size ≤ L1) (hl : V.ownsRow L1 112 7 l n (cellsOf vs)) (hn : n ≤ 1000000) :
    Calls Try.prog 63 #[.pointer (some ⟨kb, 0, none⟩), l] W fun r w' => r = .returned (.tuple #[]) ∧ ∃ s', LV K s' (c + 18) (Y1 ++ Y2) w' := by
  have hm : (l, V) ∈ Y1 ++ (l, V) :: Y2 := List.mem_append_right _ (List.mem_cons_self ..)
  have hl2 := ownsRow_mono (h.row hm hl) hL
  exact (K.putV h.inv hl2 (fun g e => (h.liv _ hm g e).2.2) hn (Nat.le_trans h.cnt hc)).mono fun r w' ⟨h0, s', h1, h2, h3, h4⟩ => ⟨h0, s', h.after (fun g e => (ownsRow_lt hl2 e).1) h1 h2 h3 h4⟩
end
end Go.Proofs.Ytfgnlfemckdfnaa.Sh
