import Derived.Test.YtfgnlfemckdfnaaJI
import Derived.Test.YtfgnlfemckdfnaaJJ
namespace Go.Proofs.Ytfgnlfemckdfnaa.Sh
open Go.RowKit Go.PlainAid
set_option linter.unusedVariables false
set_option linter.unusedSimpArgs false
set_option maxRecDepth 100000 in
set_option maxHeartbeats 3200000 in
theorem holdB_any {L kb n : Nat} {C : Array Value} {vI vM l : Value} {es : List Ent} {m : Int} (w : World) (hB : Blk w kb ((C.setIfInBounds 1 vI).setIfInBounds 3 vM) 71) (hcs : C.size = 7) (hK : KF FB L vI vM es es w) (hl : w.ownsRow L 5 1 l n (full FB n m)) (hne : ∀ e ∈ es, ∀ g, l.ownBlock = some g → e.v.ownBlock ≠ some g)
    (hn : n ≤ 1000000) (hm0 : 0 ≤ m) (hm1 : m ≤ 1000000000000000) (hel : es.length ≤ 1000000000000) (hlk : L ≤ kb) :
    Calls Try.prog 90 #[.pointer (some ⟨kb, 0, none⟩), l, .int .i64 m] w fun r w' => r = .returned (.tuple #[]) ∧ ∃ v1 v2 far es', HS FB L kb C vI vM l es w v1 v2 far es' es' (n + 40) m w' ∧ es'.length ≤ es.length + 18 ∧ es.length < es'.length := by
  have hH : HS FB L kb C vI vM l es w vI vM l es es n m w := ⟨hB, hK, hl, fun e he g q1 q2 => absurd q2 (hne e he g q1), Chg.refl _ _, fun g e => .inl e, fun g e => .inl e, fun g e => .inl e, fun e he g q => .inl ⟨e, he, q⟩, fun e he => .inl he, hcs, hlk⟩
  obtain ⟨lo, lc, hll, _⟩ := own_slice hl
  obtain ⟨io, ic, hii, _⟩ := own_slice hK.xi
  obtain ⟨mo, mc, hmm, _⟩ := own_slice hK.xm
  subst hll hii hmm
  have c1 : w.cell? ⟨kb, 1, none⟩ = some (.slice io es.length ic) := hH.cI FB.ok
  have HH : Hid _ := hH
  have hwm : IntKind.i64.wrap (m.tmod 250) = m % 250 := by rw [Int.tmod_eq_emod_of_nonneg hm0, IntKind.wrap_i64]; omega
  have hwa : IntKind.i64.wrap (m % 250 + 1) = m % 250 + 1 := by rw [IntKind.wrap_i64]; omega
  have hwu : IntKind.u8.wrap (m % 250 + 1) = m % 250 + 1 := by rw [IntKind.wrap_u8]; omega
  clear hK hl hne hH hB hlk hcs
  go_enter Try.func90, Try.ntmps90
  go_wp2_with (first
    | (at_builtin; go_must (refine HS.wpI FB.ok HH.out (by first | omega | (simp; omega)) rfl _ _ rfl rfl rfl (by first | rfl | simp) ?_))
    | fail)
  intro vo1 vc1 w1 f1 c1' H1
  have cm := H1.out.cM FB.ok
  replace cm : (w1.setCell ⟨kb, 1, none⟩ (.slice vo1 (es.length + 1) vc1)).cell? ⟨kb, 3, none⟩ = some (.slice mo es.length mc) := cm
  clear HH c1
  go_wp2_with (first
    | (at_builtin; go_must (refine HS.wpM FB.ok H1.out (by first | omega | (simp; omega)) rfl _ _ rfl rfl rfl (by first | rfl | simp) ?_))
    | fail)
  intro vo2 vc2 w2 f2 c2' H2
  clear H1 cm f1 c1'
  go_wp2
  go_loopw [6, 7] (fun fv i wr => ∃ (k : Nat) (v1 v2 : Value) (es' : List Ent), k ≤ 40 ∧ i = .int .i64 k ∧ es'.length ≤ es.length + 1 + k ∧ (17 ≤ k → k < 40 → es'.length ≤ es.length + 17) ∧ (k = 40 → es'.length ≤ es.length + 18) ∧ es.length < es'.length ∧ Hid (HS FB L kb C (.slice io es.length ic) (.slice mo es.length mc) (.slice lo n lc) es w v1 v2 fv es' es' (n + k) m wr)) (fun _ i _ => 40 - (intOf i).toNat)
  case atStart => exact ⟨0, _, _, _, Nat.zero_le _, rfl, by simp, by omega, by omega, by simp, H2⟩
  case round =>
    clear H2 f2 c2'
    obtain ⟨k, v1, v2, es', hk, rfl, hel1, hel2, hel3, hel4, HH⟩ := hrel
    have hH := HH.out
    obtain ⟨fo, fc, hff, _⟩ := own_slice hH.fr
    obtain ⟨jo, jc, hjj, _⟩ := own_slice hH.kf.xi
    obtain ⟨no, nc, hnn, _⟩ := own_slice hH.kf.xm
    subst hff hjj hnn
    by_cases hlt : k < 40
    · have hlti : (k : Int) < 40 := by omega
      clear hH
      go_wp2_with (first
        | (at_builtin; go_must (refine HS.wpF FB.ok HH.out (by first | omega | (simp; omega)) rfl _ _ rfl rfl rfl (by first | rfl | simp) ?_))
        | fail)
      intro vf cf w0 HF
      clear HH
      have c1 : w0.cell? ⟨kb, 1, none⟩ = some (.slice jo es'.length jc) := HF.out.cI FB.ok
      by_cases h16 : k < 16
      · have h16i : (k : Int) < 16 := by omega
        have HH : Hid _ := HF
        clear HF
        go_wp2_with (first
          | (at_builtin; go_must (refine HS.wpI FB.ok HH.out (by first | omega | (simp; omega)) rfl _ _ rfl rfl rfl (by first | rfl | simp) ?_))
          | fail)
        intro vo1 vc1 w1 f1 c1' H1
        have cm := H1.out.cM FB.ok
        replace cm : (w1.setCell ⟨kb, 1, none⟩ (.slice vo1 (es'.length + 1) vc1)).cell? ⟨kb, 3, none⟩ = some (.slice no es'.length nc) := cm
        clear HH c1
        go_wp2_with (first
          | (at_builtin; go_must (refine HS.wpM FB.ok H1.out (by first | omega | (simp; omega)) rfl _ _ rfl rfl rfl (by first | rfl | simp) ?_))
          | fail)
        intro vo2 vc2 w2 f2 c2' H2
        clear H1 cm f1 c1'
        go_wp2
        go_roundw
        case rel => exact ⟨k + 1, _, _, _, by omega, by go_num, by simp; omega, by simp; omega, by simp; omega, by simp; omega, H2⟩
        case measure => simp [intOf]; omega
      · have h16i : ¬ (k : Int) < 16 := by omega
        by_cases h39 : k = 39
        · subst h39
          have HH : Hid _ := HF
          clear HF
          go_wp2_with (first
            | (at_builtin; go_must (refine HS.wpI FB.ok HH.out (by first | omega | (simp; omega)) rfl _ _ rfl rfl rfl (by first | rfl | simp) ?_))
            | fail)
          intro vo1 vc1 w1 f1 c1' H1
          have cm := H1.out.cM FB.ok
          replace cm : (w1.setCell ⟨kb, 1, none⟩ (.slice vo1 (es'.length + 1) vc1)).cell? ⟨kb, 3, none⟩ = some (.slice no es'.length nc) := cm
          clear HH c1
          go_wp2_with (first
            | (at_builtin; go_must (refine HS.wpM FB.ok H1.out (by first | omega | (simp; omega)) rfl _ _ rfl rfl rfl (by first | rfl | simp) ?_))
            | fail)
          intro vo2 vc2 w2 f2 c2' H2
          clear H1 cm f1 c1'
          go_wp2
          go_roundw
          case rel => exact ⟨40, _, _, _, by omega, by go_num, by simp; omega, by simp, by simp; omega, by simp; omega, H2⟩
          case measure => simp [intOf]
        · have h39i : ((k : Int) == 39) = false := by simpa using (by omega : (k : Int) ≠ 39)
          clear c1
          go_wp2
          go_roundw
          case rel => exact ⟨k + 1, _, _, es', by omega, by go_num, by omega, by omega, by omega, hel4, HF⟩
          case measure => simp [intOf]; omega
    · obtain rfl : k = 40 := by omega
      clear hH
      go_wp2
      go_end0
      exact ⟨rfl, _, _, _, es', HH.out, by simpa using hel3, hel4⟩
end Go.Proofs.Ytfgnlfemckdfnaa.Sh
namespace Go.Proofs.Ytfgnlfemckdfnaa.Sh
open Go.RowKit Go.PlainAid
set_option linter.unusedVariables false
set_option linter.unusedSimpArgs false
set_option maxRecDepth 100000 in
set_option maxHeartbeats 3200000 in
theorem holdV_any {L kb n : Nat} {C : Array Value} {vI vM l : Value} {es : List Ent} {m : Int} (w : World) (hB : Blk w kb ((C.setIfInBounds 4 vI).setIfInBounds 6 vM) 71) (hcs : C.size = 7) (hK : KF FV L vI vM es es w) (hl : w.ownsRow L 112 7 l n (full FV n m)) (hne : ∀ e ∈ es, ∀ g, l.ownBlock = some g → e.v.ownBlock ≠ some g)
    (hn : n ≤ 1000000) (hm0 : 0 ≤ m) (hm1 : m ≤ 1000000000000000) (hel : es.length ≤ 1000000000000) (hlk : L ≤ kb) :
    Calls Try.prog 92 #[.pointer (some ⟨kb, 0, none⟩), l, .int .i64 m] w fun r w' => r = .returned (.tuple #[]) ∧ ∃ v1 v2 far es', HS FV L kb C vI vM l es w v1 v2 far es' es' (n + 40) m w' ∧ es'.length ≤ es.length + 18 ∧ es.length < es'.length := by
  have hH : HS FV L kb C vI vM l es w vI vM l es es n m w := ⟨hB, hK, hl, fun e he g q1 q2 => absurd q2 (hne e he g q1), Chg.refl _ _, fun g e => .inl e, fun g e => .inl e, fun g e => .inl e, fun e he g q => .inl ⟨e, he, q⟩, fun e he => .inl he, hcs, hlk⟩
  obtain ⟨lo, lc, hll, _⟩ := own_slice hl
  obtain ⟨io, ic, hii, _⟩ := own_slice hK.xi
  obtain ⟨mo, mc, hmm, _⟩ := own_slice hK.xm
  subst hll hii hmm
  have c1 : w.cell? ⟨kb, 4, none⟩ = some (.slice io es.length ic) := hH.cI FV.ok
  have HH : Hid _ := hH
  clear hK hl hne hH hB hlk hcs
  go_enter Try.func92, Try.ntmps92
  go_wp2_with (first
    | (at_builtin; go_must (refine HS.wpI FV.ok HH.out (by first | omega | (simp; omega)) rfl _ _ rfl rfl rfl (by first | rfl | simp) ?_))
    | fail)
  intro vo1 vc1 w1 f1 c1' H1
  have cm := H1.out.cM FV.ok
  replace cm : (w1.setCell ⟨kb, 4, none⟩ (.slice vo1 (es.length + 1) vc1)).cell? ⟨kb, 6, none⟩ = some (.slice mo es.length mc) := cm
  clear HH c1
  go_wp2_with (first
    | (at_builtin; go_must (refine HS.wpM FV.ok H1.out (by first | omega | (simp; omega)) rfl _ _ rfl rfl rfl (by first | rfl | simp) ?_))
    | fail)
  intro vo2 vc2 w2 f2 c2' H2
  clear H1 cm f1 c1'
  go_wp2
  go_loopw [6, 7] (fun fv i wr => ∃ (k : Nat) (v1 v2 : Value) (es' : List Ent), k ≤ 40 ∧ i = .int .i64 k ∧ es'.length ≤ es.length + 1 + k ∧ (17 ≤ k → k < 40 → es'.length ≤ es.length + 17) ∧ (k = 40 → es'.length ≤ es.length + 18) ∧ es.length < es'.length ∧ Hid (HS FV L kb C (.slice io es.length ic) (.slice mo es.length mc) (.slice lo n lc) es w v1 v2 fv es' es' (n + k) m wr)) (fun _ i _ => 40 - (intOf i).toNat)
  case atStart => exact ⟨0, _, _, _, Nat.zero_le _, rfl, by simp, by omega, by omega, by simp, H2⟩
  case round =>
    clear H2 f2 c2'
    obtain ⟨k, v1, v2, es', hk, rfl, hel1, hel2, hel3, hel4, HH⟩ := hrel
    have hH := HH.out
    obtain ⟨fo, fc, hff, _⟩ := own_slice hH.fr
    obtain ⟨jo, jc, hjj, _⟩ := own_slice hH.kf.xi
    obtain ⟨no, nc, hnn, _⟩ := own_slice hH.kf.xm
    subst hff hjj hnn
    by_cases hlt : k < 40
    · have hlti : (k : Int) < 40 := by omega
      clear hH
      go_wp2_with (first
        | (at_builtin; go_must (refine HS.wpF FV.ok HH.out (by first | omega | (simp; omega)) rfl _ _ rfl rfl rfl (by first | rfl | simp) ?_))
        | fail)
      intro vf cf w0 HF
      clear HH
      have c1 : w0.cell? ⟨kb, 4, none⟩ = some (.slice jo es'.length jc) := HF.out.cI FV.ok
      by_cases h16 : k < 16
      · have h16i : (k : Int) < 16 := by omega
        have HH : Hid _ := HF
        clear HF
        go_wp2_with (first
          | (at_builtin; go_must (refine HS.wpI FV.ok HH.out (by first | omega | (simp; omega)) rfl _ _ rfl rfl rfl (by first | rfl | simp) ?_))
          | fail)
        intro vo1 vc1 w1 f1 c1' H1
        have cm := H1.out.cM FV.ok
        replace cm : (w1.setCell ⟨kb, 4, none⟩ (.slice vo1 (es'.length + 1) vc1)).cell? ⟨kb, 6, none⟩ = some (.slice no es'.length nc) := cm
        clear HH c1
        go_wp2_with (first
          | (at_builtin; go_must (refine HS.wpM FV.ok H1.out (by first | omega | (simp; omega)) rfl _ _ rfl rfl rfl (by first | rfl | simp) ?_))
          | fail)
        intro vo2 vc2 w2 f2 c2' H2
        clear H1 cm f1 c1'
        go_wp2
        go_roundw
        case rel => exact ⟨k + 1, _, _, _, by omega, by go_num, by simp; omega, by simp; omega, by simp; omega, by simp; omega, H2⟩
        case measure => simp [intOf]; omega
      · have h16i : ¬ (k : Int) < 16 := by omega
        by_cases h39 : k = 39
        · subst h39
          have HH : Hid _ := HF
          clear HF
          go_wp2_with (first
            | (at_builtin; go_must (refine HS.wpI FV.ok HH.out (by first | omega | (simp; omega)) rfl _ _ rfl rfl rfl (by first | rfl | simp) ?_))
            | fail)
          intro vo1 vc1 w1 f1 c1' H1
          have cm := H1.out.cM FV.ok
          replace cm : (w1.setCell ⟨kb, 4, none⟩ (.slice vo1 (es'.length + 1) vc1)).cell? ⟨kb, 6, none⟩ = some (.slice no es'.length nc) := cm
          clear HH c1
          go_wp2_with (first
            | (at_builtin; go_must (refine HS.wpM FV.ok H1.out (by first | omega | (simp; omega)) rfl _ _ rfl rfl rfl (by first | rfl | simp) ?_))
            | fail)
          intro vo2 vc2 w2 f2 c2' H2
          clear H1 cm f1 c1'
          go_wp2
          go_roundw
          case rel => exact ⟨40, _, _, _, by omega, by go_num, by simp; omega, by simp, by simp; omega, by simp; omega, H2⟩
          case measure => simp [intOf]
        · have h39i : ((k : Int) == 39) = false := by simpa using (by omega : (k : Int) ≠ 39)
          clear c1
          go_wp2
          go_roundw
          case rel => exact ⟨k + 1, _, _, es', by omega, by go_num, by omega, by omega, by omega, hel4, HF⟩
          case measure => simp [intOf]; omega
    · obtain rfl : k = 40 := by omega
      clear hH
      go_wp2
      go_end0
      exact ⟨rfl, _, _, _, es', HH.out, by simpa using hel3, hel4⟩
end Go.Proofs.Ytfgnlfemckdfnaa.Sh
namespace Go.Proofs.Ytfgnlfemckdfnaa.Sh
open Go.RowKit Go.PlainAid
set_option linter.unusedVariables false
set_option linter.unusedSimpArgs false
set_option maxRecDepth 100000 in
set_option maxHeartbeats 1600000 in
theorem putB_any {L kb n : Nat} {s : ES} {l : Value} {xs : List Value} (w : World) (hK : KE L kb s w) (hl : w.ownsRow L 5 1 l n xs) (hap : ∀ g, l.ownBlock = some g → ¬ KB kb s g) (hn : n ≤ 1000000) (hel : s.e.length ≤ 1000000000000) :
    Calls Try.prog 62 #[.pointer (some ⟨kb, 0, none⟩), l] w fun r w' => r = .returned (.tuple #[]) ∧ ∃ s', KE L kb s' w' ∧ s'.e.length + s'.r.length ≤ s.e.length + s.r.length + 18 ∧ Chg (fun k => KB kb s k ∨ l.ownBlock = some k) w w' ∧ ∀ k, KB kb s' k → KB kb s k ∨ l.ownBlock = some k ∨ w.heap.size ≤ k := by
  have hf := fillB_any (m := (s.e.length : Int)) w hl hn (by omega) (by omega)
  obtain ⟨mo, mc, hmm, _⟩ := own_slice hK.b.xm
  obtain ⟨lo, lc, hll, _⟩ := own_slice hl
  obtain ⟨ne, hne⟩ : ∃ ne, ne = s.e.length := ⟨_, rfl⟩
  rw [← hne] at hmm hf hel
  have c0 : w.cell? ⟨kb, 0, none⟩ = some (.bool false) := hK.blk.cell 0
  have c3 : w.cell? ⟨kb, 3, none⟩ = some (.slice mo ne mc) := by rw [← hmm]; exact hK.blk.cell 3
  have HK : Hid _ := hK
  have HAP : Hid _ := hap
  have HNE : Hid _ := hne
  clear hl hK hap hmm hne
  subst hll
  go_enter Try.func62, Try.ntmps62
  go_wp2_with fail
  refine hf.mono ?_
  rintro e w1 ⟨rfl, h1, hc1⟩
  have hK1 : KE L kb s w1 := HK.out.frame hc1 (fun k hk e => HAP.out k e hk)
  have hh := holdB_any (C := #[.bool false, s.vI, .slice none 0 0, s.vM, s.vR, .slice none 0 0, s.vN]) w1 hK1.blk rfl hK1.b h1 (fun x hx g e q => HAP.out g e (.inr (.inl (.inr (.inr ⟨x, hx, q⟩))))) hn (by omega) (by omega) (by rw [← HNE.out]; exact hel) hK1.lk
  have HC1 : Hid _ := hc1
  have HK1 : Hid _ := hK1
  have H1 : Hid _ := h1
  clear hf h1 hc1 c0 c3 hK1
  go_wp2_with fail
  refine hh.mono ?_
  rintro e w2 ⟨rfl, v1, v2, far, es', hH, hle, _⟩
  obtain ⟨a1, a2, a3⟩ := HK1.out.heldB H1.out hel hH
  have HR : Hid (∃ s', KE L kb s' w2 ∧ s'.e.length + s'.r.length ≤ s.e.length + s.r.length + 18 ∧ Chg (fun k => KB kb s k ∨ (Value.slice lo n lc).ownBlock = some k) w w2 ∧ ∀ k, KB kb s' k → KB kb s k ∨ (Value.slice lo n lc).ownBlock = some k ∨ w.heap.size ≤ k) := ⟨_, a1, by show es'.length + s.r.length ≤ _; omega, (HC1.out.mono (fun j _ e => .inr e)).trans a2 (fun j _ e => e), fun k hk => by
    have hsz := HC1.out.size
    rcases a3 k hk with q | q | q
    · exact .inl q
    · exact .inr (.inl q)
    · exact .inr (.inr (by omega))⟩
  clear hh hH a1 a2 a3
  go_wp2
  go_end0
  exact ⟨rfl, HR.out⟩
set_option maxRecDepth 100000 in
set_option maxHeartbeats 1600000 in
theorem putV_any {L kb n : Nat} {s : ES} {l : Value} {xs : List Value} (w : World) (hK : KE L kb s w) (hl : w.ownsRow L 112 7 l n xs) (hap : ∀ g, l.ownBlock = some g → ¬ KB kb s g) (hn : n ≤ 1000000) (hel : s.r.length ≤ 1000000000000) :
    Calls Try.prog 63 #[.pointer (some ⟨kb, 0, none⟩), l] w fun r w' => r = .returned (.tuple #[]) ∧ ∃ s', KE L kb s' w' ∧ s'.e.length + s'.r.length ≤ s.e.length + s.r.length + 18 ∧ Chg (fun k => KB kb s k ∨ l.ownBlock = some k) w w' ∧ ∀ k, KB kb s' k → KB kb s k ∨ l.ownBlock = some k ∨ w.heap.size ≤ k := by
  have hf := fillV_any (m := (s.r.length : Int)) w hl hn (by omega) (by omega)
  obtain ⟨mo, mc, hmm, _⟩ := own_slice hK.v.xm
  obtain ⟨lo, lc, hll, _⟩ := own_slice hl
  obtain ⟨ne, hne⟩ : ∃ ne, ne = s.r.length := ⟨_, rfl⟩
  rw [← hne] at hmm hf hel
  have c0 : w.cell? ⟨kb, 0, none⟩ = some (.bool false) := hK.blk.cell 0
  have c3 : w.cell? ⟨kb, 6, none⟩ = some (.slice mo ne mc) := by rw [← hmm]; exact hK.blk.cell 6
  have HK : Hid _ := hK
  have HAP : Hid _ := hap
  have HNE : Hid _ := hne
  clear hl hK hap hmm hne
  subst hll
  go_enter Try.func63, Try.ntmps63
  go_wp2_with fail
  refine hf.mono ?_
  rintro e w1 ⟨rfl, h1, hc1⟩
  have hK1 : KE L kb s w1 := HK.out.frame hc1 (fun k hk e => HAP.out k e hk)
  have hh := holdV_any (C := #[.bool false, s.vI, .slice none 0 0, s.vM, s.vR, .slice none 0 0, s.vN]) w1 hK1.blk rfl hK1.v h1 (fun x hx g e q => HAP.out g e (.inr (.inr (.inr (.inr ⟨x, hx, q⟩))))) hn (by omega) (by omega) (by rw [← HNE.out]; exact hel) hK1.lk
  have HC1 : Hid _ := hc1
  have HK1 : Hid _ := hK1
  have H1 : Hid _ := h1
  clear hf h1 hc1 c0 c3 hK1
  go_wp2_with fail
  refine hh.mono ?_
  rintro e w2 ⟨rfl, v1, v2, far, es', hH, hle, _⟩
  obtain ⟨a1, a2, a3⟩ := HK1.out.heldV H1.out hel hH
  have HR : Hid (∃ s', KE L kb s' w2 ∧ s'.e.length + s'.r.length ≤ s.e.length + s.r.length + 18 ∧ Chg (fun k => KB kb s k ∨ (Value.slice lo n lc).ownBlock = some k) w w2 ∧ ∀ k, KB kb s' k → KB kb s k ∨ (Value.slice lo n lc).ownBlock = some k ∨ w.heap.size ≤ k) := ⟨_, a1, by show s.e.length + es'.length ≤ _; omega, (HC1.out.mono (fun j _ e => .inr e)).trans a2 (fun j _ e => e), fun k hk => by
    have hsz := HC1.out.size
    rcases a3 k hk with q | q | q
    · exact .inl q
    · exact .inr (.inl q)
    · exact .inr (.inr (by omega))⟩
  clear hh hH a1 a2 a3
  go_wp2
  go_end0
  exact ⟨rfl, HR.out⟩
end Go.Proofs.Ytfgnlfemckdfnaa.Sh
