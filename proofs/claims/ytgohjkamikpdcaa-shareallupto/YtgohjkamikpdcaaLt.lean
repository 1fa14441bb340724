import Derived.Test.YtgohjkamikpdcaaLtT
namespace Go.Proofs.Ytgohjkamikpdcaa
open Go.RowKit Go.PlainAid
set_option linter.unusedVariables false
set_option linter.unusedSimpArgs false
set_option maxRecDepth 100000 in
set_option maxHeartbeats 6400000 in
/-- The lists are as they were; then they are written full, grown, and whole. -/
theorem lately_any {L kb : Nat} {vI vW vR vX : Value} {es : List (LE Int)} {rs : List (LE (Int × Int))} (w : World) (hK : KL L kb vI vW vR vX es rs w) (hel : es.length ≤ 50000000000) (hrl : rs.length ≤ 50000000000) :
    Calls Try.prog 44 #[.pointer (some ⟨kb, 0, none⟩)] w fun r w' => r = .returned (.bool true) ∧ Chg (KLB kb vI vW vR vX es rs) w w' := by
  obtain ⟨io, ci, hii, _⟩ := own_slice hK.xi
  obtain ⟨wo, cw, hww, _⟩ := own_slice hK.xw
  obtain ⟨ro, cr, hrr, _⟩ := own_slice hK.yi
  obtain ⟨xo, cx, hxx, _⟩ := own_slice hK.yw
  obtain ⟨ne, hne⟩ : ∃ ne, ne = es.length := ⟨_, rfl⟩
  obtain ⟨nr, hnr⟩ : ∃ nr, nr = rs.length := ⟨_, rfl⟩
  rw [← hne] at hii hww hel
  rw [← hnr] at hrr hxx hrl
  subst hii hww hrr hxx
  have c1 : w.cell? ⟨kb, 1, none⟩ = some (.slice io ne ci) := hK.blk.cell 1
  have c2 : w.cell? ⟨kb, 2, none⟩ = some (.slice wo ne cw) := hK.blk.cell 2
  have c4 : w.cell? ⟨kb, 4, none⟩ = some (.slice ro nr cr) := hK.blk.cell 4
  have c5 : w.cell? ⟨kb, 5, none⟩ = some (.slice xo nr cx) := hK.blk.cell 5
  have HK : Hid _ := hK
  have HNE : Hid (ne = es.length) := hne
  have HNR : Hid (nr = rs.length) := hnr
  have HLO : Hid (∀ k, LO es rs k → k ≠ kb ∧ (Value.slice io ne ci).ownBlock ≠ some k ∧ (Value.slice ro nr cr).ownBlock ≠ some k) := fun k h => by
    rcases h with ⟨e, he, hk⟩ | ⟨e, he, hk⟩
    · exact ⟨kb_ne (hK.el e he) hK.blk (by decide) k hk, ty_ne (hK.el e he) hK.xi (by decide) k hk, ty_ne (hK.el e he) hK.yi (by decide) k hk⟩
    · exact ⟨kb_ne (hK.rl e he) hK.blk (by decide) k hk, ty_ne (hK.rl e he) hK.xi (by decide) k hk, ty_ne (hK.rl e he) hK.yi (by decide) k hk⟩
  have HLT : Hid (∀ k, LO es rs k → k < w.heap.size) := fun k h => by
    rcases h with ⟨e, he, hk⟩ | ⟨e, he, hk⟩
    · exact (ownsRow_lt (hK.el e he) hk).2
    · exact (ownsRow_lt (hK.rl e he) hk).2
  have HXR : Hid (∀ e ∈ es, ∀ f ∈ rs, ∀ g, e.l.ownBlock = some g → f.l.ownBlock ≠ some g) := fun e he f hf => ty_ne (hK.el e he) (hK.rl f hf) (by decide)
  have HKL : Hid (kb < w.heap.size) := hK.blk.lt
  have HVI : Hid (∀ k, (Value.slice io ne ci).ownBlock = some k → k < w.heap.size) := fun k hk => (ownsRow_lt hK.xi hk).2
  have HVR : Hid (∀ k, (Value.slice ro nr cr).ownBlock = some k → k < w.heap.size) := fun k hk => (ownsRow_lt hK.yi hk).2
  clear hK hne hnr
  go_enter Try.func44, Try.ntmps44
  go_wp2_with fail
  go_loopw [3] (fun s wr => ∃ i q : Nat, i ≤ ne ∧ s = .int .i64 (i : Int) ∧ wr = w.drewN q) (fun s _ => ne - (intOf s).toNat)
  case atStart => exact ⟨0, 0, Nat.zero_le _, rfl, rfl⟩
  case round =>
    obtain ⟨i, q, hie, rfl, rfl⟩ := hrel
    have c1' : (w.drewN q).cell? ⟨kb, 1, none⟩ = some (.slice io ne ci) := c1
    by_cases hi : i < ne
    · obtain ⟨e, he⟩ : ∃ e, es[i]? = some e := ⟨es[i]'(by rw [← HNE.out]; exact hi), List.getElem?_eq_getElem _⟩
      have hem := List.mem_of_getElem? he
      obtain ⟨el, ew, zs⟩ := e
      have hl := HK.out.el _ hem
      have hw := HK.out.ew _ hem
      have hzl := HK.out.ln _ hem
      simp only at hl hw hzl
      obtain ⟨lo, lc, hll, _, hm1, _, hf1, _⟩ := own_from hl
      obtain ⟨vo, vc, hvv, _, hm2, _, hf2, _⟩ := own_from hw
      subst hll hvv
      have xi := HK.out.xi
      rw [← HNE.out] at xi
      have xw := HK.out.xw
      rw [← HNE.out] at xw
      obtain ⟨gi, rfl⟩ := row_ptr xi (by omega)
      obtain ⟨gw, rfl⟩ := row_ptr xw (by omega)
      have d2 : w.cell? ⟨gi, i, none⟩ = some (.slice lo zs.length lc) := row_cell xi (by rw [List.getElem?_map, he]; rfl)
      have d4 : w.cell? ⟨gw, i, none⟩ = some (.slice vo zs.length vc) := row_cell xw (by rw [List.getElem?_map, he]; rfl)
      have f1 : (w.drewN q).cell? ⟨kb, 1, none⟩ = some (.slice (some ⟨gi, 0, none⟩) ne ci) := c1
      have f2 : (w.drewN q).cell? ⟨gi, i, none⟩ = some (.slice lo zs.length lc) := d2
      have f3 : (w.drewN q).cell? ⟨kb, 2, none⟩ = some (.slice (some ⟨gw, 0, none⟩) ne cw) := c2
      have f4 : (w.drewN q).cell? ⟨gw, i, none⟩ = some (.slice vo zs.length vc) := d4
      have hk1 := fun n => same_any (c1 := lc) (c2 := vc) ((w.drewN q).drewN n) rfl rfl (show FromI ((w.drewN q).drewN n) lo zs from hf1) (show FromI ((w.drewN q).drewN n) vo zs from hf2) (by unfold maxLen; omega) (by unfold maxLen; omega)
      have hdt : decide (zs = zs) = true := by simp
      simp only [hdt] at hk1
      generalize zs.length = ln at *
      clear hl hw xi xw he hem hf1 hf2 hdt
      obtain ⟨wz, hwz⟩ : ∃ wz, wz = w.drewN q := ⟨_, rfl⟩
      rw [← hwz] at f1 f2 f3 f4 hk1 c1' ⊢
      have HWZ : Hid _ := hwz
      have HQ : Hid _ := hk1
      clear hk1 hwz
      go_wp2_with fail
      go_quiet (first | (go_at_call 17; exact Calls.quiet_of (HQ.out _)) | fail)
      go_wp2_with fail
      go_roundw
      case rel => exact ⟨i + 1, _, by omega, by go_num, by rw [HWZ.out, World.drewN_drewN]⟩
      case measure => simp [intOf]; omega
    · clear c1'
      go_wp2_with fail
      go_loopw [4] (fun s wr => ∃ i q : Nat, i ≤ nr ∧ s = .int .i64 (i : Int) ∧ wr = w.drewN q) (fun s _ => nr - (intOf s).toNat)
      case atStart => exact ⟨0, q, Nat.zero_le _, rfl, rfl⟩
      case round =>
        obtain ⟨i, q, hie, rfl, rfl⟩ := hrel
        have c1' : (w.drewN q).cell? ⟨kb, 4, none⟩ = some (.slice ro nr cr) := c4
        by_cases hi : i < nr
        · obtain ⟨e, he⟩ : ∃ e, rs[i]? = some e := ⟨rs[i]'(by rw [← HNR.out]; exact hi), List.getElem?_eq_getElem _⟩
          have hem := List.mem_of_getElem? he
          obtain ⟨el, ew, zs⟩ := e
          have hl := HK.out.rl _ hem
          have hw := HK.out.rw' _ hem
          have hzl := HK.out.rn _ hem
          simp only at hl hw hzl
          obtain ⟨lo, lc, hll, _⟩ := own_slice hl
          obtain ⟨vo, vc, hvv, _⟩ := own_slice hw
          subst hll hvv
          have xi := HK.out.yi
          rw [← HNR.out] at xi
          have xw := HK.out.yw
          rw [← HNR.out] at xw
          obtain ⟨gi, rfl⟩ := row_ptr xi (by omega)
          obtain ⟨gw, rfl⟩ := row_ptr xw (by omega)
          have d2 : w.cell? ⟨gi, i, none⟩ = some (.slice lo zs.length lc) := row_cell xi (by rw [List.getElem?_map, he]; rfl)
          have d4 : w.cell? ⟨gw, i, none⟩ = some (.slice vo zs.length vc) := row_cell xw (by rw [List.getElem?_map, he]; rfl)
          have f1 : (w.drewN q).cell? ⟨kb, 4, none⟩ = some (.slice (some ⟨gi, 0, none⟩) nr cr) := c4
          have f2 : (w.drewN q).cell? ⟨gi, i, none⟩ = some (.slice lo zs.length lc) := d2
          have f3 : (w.drewN q).cell? ⟨kb, 5, none⟩ = some (.slice (some ⟨gw, 0, none⟩) nr cx) := c5
          have f4 : (w.drewN q).cell? ⟨gw, i, none⟩ = some (.slice vo zs.length vc) := d4
          have hk1 := fun n => sameR_any ((w.drewN q).drewN n) (show World.ownsRow ((w.drewN q).drewN n) L 38 2 (.slice lo zs.length lc) zs.length (flatR zs) from hl) (show World.ownsRow ((w.drewN q).drewN n) L 38 2 (.slice vo zs.length vc) zs.length (flatR zs) from hw) hzl
          generalize zs.length = ln at *
          clear hl hw xi xw he hem
          obtain ⟨wz, hwz⟩ : ∃ wz, wz = w.drewN q := ⟨_, rfl⟩
          rw [← hwz] at f1 f2 f3 f4 hk1 c1' ⊢
          have HWZ : Hid _ := hwz
          have HQ : Hid _ := hk1
          clear hk1 hwz
          go_wp2_with fail
          go_quiet (first | (go_at_call 25; exact Calls.quiet_of (HQ.out _)) | fail)
          go_wp2_with fail
          go_roundw
          case rel => exact ⟨i + 1, _, by omega, by go_num, by rw [HWZ.out, World.drewN_drewN]⟩
          case measure => simp [intOf]; omega
        · clear c1'
          have hbw : Below w.heap.size w (w.drewN q) := below_drewN (Below.refl _ _) q
          have c1' : (w.drewN q).cell? ⟨kb, 4, none⟩ = some (.slice ro nr cr) := c4
          generalize w.drewN q = wr at *
          obtain ⟨tb, htb⟩ : ∃ tb, tb = wr.heap.size := ⟨_, rfl⟩
          obtain ⟨X, hX⟩ : ∃ X, X = wr.alloc (.cells #[.bool false, .slice none 0 0, .slice none 0 0, .slice none 0 0, .slice none 0 0, .slice none 0 0, .slice none 0 0] 44) := ⟨_, rfl⟩
          have hLw : L ≤ wr.heap.size := Nat.le_trans (Nat.le_trans HK.out.lk (Nat.le_of_lt HKL.out)) hbw.size
          have hbX : Below w.heap.size w X := by rw [hX]; exact hbw.alloc hbw.size _
          have hKX := HK.out.more hbX
          have hBT : Blk X tb #[.bool false, .slice none 0 0, .slice none 0 0, .slice none 0 0, .slice none 0 0, .slice none 0 0, .slice none 0 0] 44 := by rw [hX, htb]; exact heap_alloc_new wr _
          have HF0 : Hid (LF L kb (.slice io ne ci) (.slice wo ne cw) (.slice ro nr cr) (.slice xo nr cx) es rs w tb 0 0 X) := ⟨hKX.blk, hKX.xi, hKX.yi, (fun j e he hj => by omega), (fun j e he _ => hKX.el e (List.mem_of_getElem? he)), (fun j e he hj => by omega), (fun j e he _ => hKX.rl e (List.mem_of_getElem? he)), ⟨hBT, World.ownsRow_nil _ _ _ _, World.ownsRow_nil _ _ _ _, (fun e he => by cases he), World.ownsRow_nil _ _ _ _, World.ownsRow_nil _ _ _ _, (fun e he => by cases he), (fun e he => by cases he), (fun g e => by cases e), by omega⟩, Chg.ofBelow _ hbX, HLT.out, by have := hbw.size; omega⟩
          have HEX : Hid (X = wr.alloc (.cells #[.bool false, .slice none 0 0, .slice none 0 0, .slice none 0 0, .slice none 0 0, .slice none 0 0, .slice none 0 0] 44)) := hX
          have HET : Hid (tb = wr.heap.size) := htb
          clear hLw hbX hKX hBT hX htb
          go_upto_region 12 with fail
          rw [← HEX.out, ← HET.out]
          clear HEX HET c1' hbw
          go_wp2_with fail
          go_loopw [6] (fun s wr => ∃ j : Nat, j ≤ ne ∧ s = .int .i64 (j : Int) ∧ LF L kb (.slice io ne ci) (.slice wo ne cw) (.slice ro nr cr) (.slice xo nr cx) es rs w tb j 0 wr) (fun s _ => ne - (intOf s).toNat)
          case atStart => exact ⟨0, Nat.zero_le _, rfl, HF0.out⟩
          case round =>
            clear HF0
            obtain ⟨j, hje, rfl, hF⟩ := hrel
            have HF : Hid _ := hF
            have e1 : wr.cell? ⟨kb, 1, none⟩ = some (.slice io ne ci) := hF.blk.cell 1
            clear hF
            by_cases hj : j < ne
            · obtain ⟨e, he⟩ : ∃ e, es[j]? = some e := ⟨es[j]'(by rw [← HNE.out]; exact hj), List.getElem?_eq_getElem _⟩
              obtain ⟨el, ew, zs⟩ := e
              have hzl := HK.out.ln _ (List.mem_of_getElem? he)
              have hre := HF.out.re j _ he (Nat.le_refl _)
              simp only at hzl hre
              have xi := HF.out.xi
              rw [← HNE.out] at xi
              obtain ⟨gi, rfl⟩ := row_ptr xi (by omega)
              obtain ⟨lo, lc, hll, _⟩ := own_slice hre
              subst hll
              have d2 : wr.cell? ⟨gi, j, none⟩ = some (.slice lo zs.length lc) := row_cell xi (by rw [List.getElem?_map, he]; rfl)
              have HFI : Hid _ := fillI_any (m := (j : Int)) wr hre (by omega) (by omega) (by omega)
              have HST : Hid _ := fun w2 => HF.out.stepI (w2 := w2) HK.out.dj he
              simp only at HST
              generalize zs.length = ln at *
              clear he hre xi
              go_wp2_with fail
              refine Calls.mono HFI.out ?_
              rintro e9 w2 ⟨rfl, hr2, hc2⟩
              have HF2 : Hid _ := HST.out w2 hr2 hc2
              clear hr2 hc2 HFI HF d2 HST
              go_wp2_with fail
              go_roundw
              case rel => exact ⟨j + 1, by omega, by go_num, HF2.out⟩
              case measure => simp [intOf]; omega
            · have hjn : j = es.length := by have := HNE.out; omega
              have HF0 : Hid (LF L kb (.slice io ne ci) (.slice wo ne cw) (.slice ro nr cr) (.slice xo nr cx) es rs w tb es.length 0 wr) := by
                have := HF.out
                rw [hjn] at this
                exact this
              clear HF hjn
              go_wp2_with fail
              go_loopw [7] (fun s wr => ∃ j : Nat, j ≤ nr ∧ s = .int .i64 (j : Int) ∧ LF L kb (.slice io ne ci) (.slice wo ne cw) (.slice ro nr cr) (.slice xo nr cx) es rs w tb es.length j wr) (fun s _ => nr - (intOf s).toNat)
              case atStart => exact ⟨0, Nat.zero_le _, rfl, HF0.out⟩
              case round =>
                clear HF0
                obtain ⟨j, hje, rfl, hF⟩ := hrel
                have HF : Hid _ := hF
                have e1 : wr.cell? ⟨kb, 4, none⟩ = some (.slice ro nr cr) := hF.blk.cell 4
                clear hF
                by_cases hj : j < nr
                · obtain ⟨e, he⟩ : ∃ e, rs[j]? = some e := ⟨rs[j]'(by rw [← HNR.out]; exact hj), List.getElem?_eq_getElem _⟩
                  obtain ⟨el, ew, zs⟩ := e
                  have hzl := HK.out.rn _ (List.mem_of_getElem? he)
                  have hre := HF.out.ge j _ he (Nat.le_refl _)
                  simp only at hzl hre
                  have xi := HF.out.yi
                  rw [← HNR.out] at xi
                  obtain ⟨gi, rfl⟩ := row_ptr xi (by omega)
                  obtain ⟨lo, lc, hll, _⟩ := own_slice hre
                  subst hll
                  have d2 : wr.cell? ⟨gi, j, none⟩ = some (.slice lo zs.length lc) := row_cell xi (by rw [List.getElem?_map, he]; rfl)
                  have HFI : Hid _ := fillR_any (m := (j : Int)) wr hre (by omega) (by omega) (by omega)
                  have HST : Hid _ := fun w2 => HF.out.stepR (w2 := w2) HK.out.rj he
                  simp only at HST
                  generalize zs.length = ln at *
                  clear he hre xi
                  go_wp2_with fail
                  refine Calls.mono HFI.out ?_
                  rintro e9 w2 ⟨rfl, hr2, hc2⟩
                  have HF2 : Hid _ := HST.out w2 hr2 hc2
                  clear hr2 hc2 HFI HF d2 HST
                  go_wp2_with fail
                  go_roundw
                  case rel => exact ⟨j + 1, by omega, by go_num, HF2.out⟩
                  case measure => simp [intOf]; omega
                · have hjn : j = rs.length := by have := HNR.out; omega
                  have HH0 : Hid (LH L kb (.slice io ne ci) (.slice wo ne cw) (.slice ro nr cr) (.slice xo nr cx) es rs w tb 0 0 (.slice none 0 0) (.slice none 0 0) (.slice none 0 0) (.slice none 0 0) [] [] wr) := by
                    have := HF.out
                    rw [hjn] at this
                    exact this.held
                  clear HF hjn
                  go_wp2_with fail
                  go_loopw [8] (fun s wr => ∃ j : Nat, j ≤ ne ∧ s = .int .i64 (j : Int) ∧ ∃ v1 v2 v3 v4 es' rs', LH L kb (.slice io ne ci) (.slice wo ne cw) (.slice ro nr cr) (.slice xo nr cx) es rs w tb j 0 v1 v2 v3 v4 es' rs' wr) (fun s _ => ne - (intOf s).toNat)
                  case atStart => exact ⟨0, Nat.zero_le _, rfl, _, _, _, _, _, _, HH0.out⟩
                  case round =>
                    clear HH0
                    obtain ⟨j, hje, rfl, v1, v2, v3, v4, es', rs', hH⟩ := hrel
                    have HH : Hid _ := hH
                    have e1 : wr.cell? ⟨kb, 1, none⟩ = some (.slice io ne ci) := hH.blk.cell 1
                    clear hH
                    by_cases hj : j < ne
                    · obtain ⟨e, he⟩ : ∃ e, es[j]? = some e := ⟨es[j]'(by rw [← HNE.out]; exact hj), List.getElem?_eq_getElem _⟩
                      obtain ⟨el, ew, zs⟩ := e
                      have hzl := HK.out.ln _ (List.mem_of_getElem? he)
                      have hre := HH.out.fu j _ he (Nat.le_refl _)
                      simp only at hzl hre
                      have xi := HH.out.xi
                      rw [← HNE.out] at xi
                      obtain ⟨gi, rfl⟩ := row_ptr xi (by omega)
                      obtain ⟨lo, lc, hll, _⟩ := own_slice hre
                      subst hll
                      have d2 : wr.cell? ⟨gi, j, none⟩ = some (.slice lo zs.length lc) := row_cell xi (by rw [List.getElem?_map, he]; rfl)
                      have hno : ∀ g, (Value.slice lo zs.length lc).ownBlock = some g → ¬ KB tb v1 v2 v3 v4 es' rs' g := fun g h1 h2 => by
                        rcases HH.out.kb' g h2 with q | ⟨a, f, h3, h4, h5⟩ | ⟨a, f, h3, h4, h5⟩
                        · have := HLT.out g (.inl ⟨_, List.mem_of_getElem? he, h1⟩); omega
                        · exact dj_at HK.out.dj h3 he (by omega) g h5 h1
                        · exact HXR.out _ (List.mem_of_getElem? he) f (List.mem_of_getElem? h3) g h1 h5
                      have HHO : Hid _ := holdI_any (m := (j : Int)) wr HH.out.tk hre (fun g h1 => ⟨fun h2 => hno g h1 (.inr (.inr (.inl h2))), fun h2 => hno g h1 (.inr (.inr (.inr (.inr (.inl h2)))))⟩) (fun x hx g h1 h2 => hno g h1 (.inr (.inr (.inr (.inr (.inr (.inl ⟨x, hx, h2⟩))))))) hzl (by omega) (by omega) (by have := HH.out.cn1; omega)
                      have HST : Hid _ := fun (far u1 u2 : Value) (ls2 : List Ent) (w2 : World) => HH.out.stepI (far := far) (u1 := u1) (u2 := u2) (ls2 := ls2) (w2 := w2) HK.out.dj HK.out.rj HXR.out HKL.out HVI.out HVR.out HLO.out he
                      simp only at HST
                      generalize zs.length = ln at *
                      clear he hre xi hno
                      go_wp2_with fail
                      refine Calls.mono HHO.out ?_
                      rintro e9 w2 ⟨rfl, u1, u2, far, ls2, hS2, hle2, _⟩
                      have HH2 : Hid _ := HST.out far u1 u2 ls2 w2 hS2 hle2 (by omega)
                      clear hS2 hle2 HHO HH d2 HST
                      go_wp2_with fail
                      go_roundw
                      case rel => exact ⟨j + 1, by omega, by go_num, _, _, _, _, _, _, HH2.out⟩
                      case measure => simp [intOf]; omega
                    · have hjn : j = es.length := by have := HNE.out; omega
                      have HH0 : Hid (LH L kb (.slice io ne ci) (.slice wo ne cw) (.slice ro nr cr) (.slice xo nr cx) es rs w tb es.length 0 v1 v2 v3 v4 es' rs' wr) := by
                        have := HH.out
                        rw [hjn] at this
                        exact this
                      clear HH hjn
                      go_wp2_with fail
                      go_loopw [9] (fun s wr => ∃ j : Nat, j ≤ nr ∧ s = .int .i64 (j : Int) ∧ ∃ v1 v2 v3 v4 es' rs', LH L kb (.slice io ne ci) (.slice wo ne cw) (.slice ro nr cr) (.slice xo nr cx) es rs w tb es.length j v1 v2 v3 v4 es' rs' wr) (fun s _ => nr - (intOf s).toNat)
                      case atStart => exact ⟨0, Nat.zero_le _, rfl, _, _, _, _, _, _, HH0.out⟩
                      case round =>
                        clear HH0
                        obtain ⟨j, hje, rfl, v1, v2, v3, v4, es', rs', hH⟩ := hrel
                        have HH : Hid _ := hH
                        have e1 : wr.cell? ⟨kb, 4, none⟩ = some (.slice ro nr cr) := hH.blk.cell 4
                        clear hH
                        by_cases hj : j < nr
                        · obtain ⟨e, he⟩ : ∃ e, rs[j]? = some e := ⟨rs[j]'(by rw [← HNR.out]; exact hj), List.getElem?_eq_getElem _⟩
                          obtain ⟨el, ew, zs⟩ := e
                          have hzl := HK.out.rn _ (List.mem_of_getElem? he)
                          have hre := HH.out.gu j _ he (Nat.le_refl _)
                          simp only at hzl hre
                          have xi := HH.out.yi
                          rw [← HNR.out] at xi
                          obtain ⟨gi, rfl⟩ := row_ptr xi (by omega)
                          obtain ⟨lo, lc, hll, _⟩ := own_slice hre
                          subst hll
                          have d2 : wr.cell? ⟨gi, j, none⟩ = some (.slice lo zs.length lc) := row_cell xi (by rw [List.getElem?_map, he]; rfl)
                          have hno : ∀ g, (Value.slice lo zs.length lc).ownBlock = some g → ¬ KB tb v1 v2 v3 v4 es' rs' g := fun g h1 h2 => by
                            rcases HH.out.kb' g h2 with q | ⟨a, f, h3, h4, h5⟩ | ⟨a, f, h3, h4, h5⟩
                            · have := HLT.out g (.inr ⟨_, List.mem_of_getElem? he, h1⟩); omega
                            · exact HXR.out f (List.mem_of_getElem? h3) _ (List.mem_of_getElem? he) g h5 h1
                            · exact dj_at HK.out.rj h3 he (by omega) g h5 h1
                          have HHO : Hid _ := holdR_any (m := (j : Int)) wr HH.out.tk hre (fun g h1 => ⟨fun h2 => hno g h1 (.inr (.inr (.inl h2))), fun h2 => hno g h1 (.inr (.inr (.inr (.inr (.inl h2)))))⟩) (fun x hx g h1 h2 => hno g h1 (.inr (.inr (.inr (.inr (.inr (.inr ⟨x, hx, h2⟩))))))) hzl (by omega) (by omega) (by have := HH.out.cn2; omega)
                          have HST : Hid _ := fun (far u1 u2 : Value) (ls2 : List Ent) (w2 : World) => HH.out.stepR (far := far) (u1 := u1) (u2 := u2) (ls2 := ls2) (w2 := w2) HK.out.rj HK.out.dj HXR.out HKL.out HVI.out HVR.out HLO.out he
                          simp only at HST
                          generalize zs.length = ln at *
                          clear he hre xi hno
                          go_wp2_with fail
                          refine Calls.mono HHO.out ?_
                          rintro e9 w2 ⟨rfl, u1, u2, far, ls2, hS2, hle2, _⟩
                          have HH2 : Hid _ := HST.out far u1 u2 ls2 w2 hS2 hle2 (by omega)
                          clear hS2 hle2 HHO HH d2 HST
                          go_wp2_with fail
                          go_roundw
                          case rel => exact ⟨j + 1, by omega, by go_num, _, _, _, _, _, _, HH2.out⟩
                          case measure => simp [intOf]; omega
                        · have HWH : Hid _ := whole_early wr HH.out.tk HH.out.mk1 HH.out.mk2
                          go_wp2_with fail
                          refine Calls.mono HWH.out ?_
                          rintro e9 w2 ⟨rfl, q9, rfl⟩
                          have a1 : Chg (KLB kb (.slice io ne ci) (.slice wo ne cw) (.slice ro nr cr) (.slice xo nr cx) es rs) w wr := HH.out.chg.mono (fun k _ h => by
                            rcases h with ⟨e, he, hk⟩ | ⟨e, he, hk⟩
                            · exact .inr (.inr (.inr (.inr (.inr (.inl ⟨e, he, .inl hk⟩)))))
                            · exact .inr (.inr (.inr (.inr (.inr (.inr ⟨e, he, .inl hk⟩))))))
                          have HCF : Hid (Chg (KLB kb (.slice io ne ci) (.slice wo ne cw) (.slice ro nr cr) (.slice xo nr cx) es rs) w (wr.drewN q9)) := a1.drewN q9
                          clear a1 HWH HH
                          go_wp2_with fail
                          go_ret
                          exact ⟨rfl, HCF.out⟩
set_option maxRecDepth 100000 in
set_option maxHeartbeats 1600000 in
theorem whole_late {L kb : Nat} {vI vW vR vX : Value} {es : List (LE Int)} {rs : List (LE (Int × Int))} (w : World) (hK : KL L kb vI vW vR vX es rs w) (hel : es.length ≤ 50000000000) (hrl : rs.length ≤ 50000000000) :
    Calls Try.prog 30 #[.pointer (some ⟨kb, 0, none⟩)] w fun r w' => r = .returned (.bool true) ∧ Chg (KLB kb vI vW vR vX es rs) w w' := by
  have c0 : w.cell? ⟨kb, 0, none⟩ = some (.bool true) := hK.blk.cell 0
  have HL : Hid _ := lately_any w hK hel hrl
  clear hK
  go_enter Try.func30, Try.ntmps30
  go_wp2_with fail
  refine Calls.mono HL.out ?_
  rintro e w2 ⟨rfl, hc⟩
  have HC : Hid _ := hc
  clear hc HL
  go_wp2_with fail
  go_ret
  exact ⟨rfl, HC.out⟩
structure LSt where
  vI : Value
  vW : Value
  vR : Value
  vX : Value
  e : List (LE Int)
  r : List (LE (Int × Int))
/-- The keep that looks at the end. -/
def late (L kb : Nat) : Keeper LSt L kb where
  Inv s w := KL L kb s.vI s.vW s.vR s.vX s.e s.r w
  bl s := KLB kb s.vI s.vW s.vR s.vX s.e s.r
  cnt s := s.e.length + s.r.length
  lt h hk := h.lt hk
  low h := Nat.le_trans h.lk (Nat.le_of_lt h.blk.lt)
  frame h hc hB := h.frame hc hB
  putI {s w l n zs} h hl hap hn hc := by
    have hz : zs.length = n := by simpa using hl.1
    subst hz
    exact (put_lateI w h hl hap hn (by omega)).mono fun r w' ⟨h0, v1, v2, es, h1, h2, h3, h4⟩ => ⟨h0, ⟨v1, v2, s.vR, s.vX, es, s.r⟩, h1, by show es.length + s.r.length ≤ s.e.length + s.r.length + 18; omega, h3.mono (fun k _ e => Or.inl e), h4⟩
  putR {s w l n zs} h hl hap hn hc := by
    have hz : zs.length = n := ownR_len hl
    subst hz
    exact (put_lateR w h hl hap hn (by omega)).mono fun r w' ⟨h0, v1, v2, es, h1, h2, h3, h4⟩ => ⟨h0, ⟨s.vI, s.vW, v1, v2, s.e, es⟩, h1, by show s.e.length + es.length ≤ s.e.length + s.r.length + 18; omega, h3.mono (fun k _ e => Or.inl e), h4⟩
end Go.Proofs.Ytgohjkamikpdcaa
