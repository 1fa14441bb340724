import Derived.Test.YtjojhhkbebddmaaShH
namespace Go.Proofs.Ytjojhhkbebddmaa
open Go.RowKit Go.PlainAid
set_option linter.unusedVariables false
set_option linter.unusedSimpArgs false
set_option maxRecDepth 100000 in
set_option maxHeartbeats 3200000 in
/-- A list that is full of its mark is held, and grown. -/
theorem holdE_any {L kb n : Nat} {C : Array Value} {vI vM l : Value} {es : List Lst} {m : Int} (w : World) (hB : Blk w kb ((C.setIfInBounds 4 vI).setIfInBounds 6 vM) 76) (hcs : C.size = 7) (hK : KF FE L vI vM es es w) (hl : w.ownsRow L 49 2 l n (full FE n m)) (hne : ∀ e ∈ es, ∀ g, l.ownBlock = some g → e.v.ownBlock ≠ some g)
    (hn : n ≤ 1000000) (hm0 : 0 ≤ m) (hm1 : m ≤ 1000000000000000) (hel : es.length ≤ 1000000000000) (hlk : L ≤ kb) :
    Calls Try.prog 82 #[.pointer (some ⟨kb, 0, none⟩), l, .int .i64 m] w fun r w' => r = .returned (.tuple #[]) ∧ ∃ v1 v2 far es', HS FE L kb C vI vM l es w v1 v2 far es' es' (n + 40) m w' ∧ es'.length ≤ es.length + 18 ∧ es.length < es'.length := by
  have hH : HS FE L kb C vI vM l es w vI vM l es es n m w := ⟨hB, hK, hl, fun e he g q1 q2 => absurd q2 (hne e he g q1), Chg.refl _ _, fun g e => .inl e, fun g e => .inl e, fun g e => .inl e, fun e he g q => .inl ⟨e, he, q⟩, fun e he => .inl he, hcs, hlk⟩
  obtain ⟨lo, lc, hll, _⟩ := own_slice hl
  obtain ⟨io, ic, hii, _⟩ := own_slice hK.xi
  obtain ⟨mo, mc, hmm, _⟩ := own_slice hK.xm
  subst hll hii hmm
  have c1 : w.cell? ⟨kb, 4, none⟩ = some (.slice io es.length ic) := hH.cI FE.ok
  have HH : Hid _ := hH
  clear hK hl hne hH hB hlk hcs
  go_enter Try.func82, Try.ntmps82
  go_wp2_with (first
    | (at_builtin; go_must (refine HS.wpI FE.ok HH.out (by first | omega | (simp; omega)) rfl _ _ rfl rfl rfl (by first | rfl | simp) ?_))
    | fail)
  intro vo1 vc1 w1 f1 c1' H1
  have cm := H1.out.cM FE.ok
  replace cm : (w1.setCell ⟨kb, 4, none⟩ (.slice vo1 (es.length + 1) vc1)).cell? ⟨kb, 6, none⟩ = some (.slice mo es.length mc) := cm
  clear HH c1
  go_wp2_with (first
    | (at_builtin; go_must (refine HS.wpM FE.ok H1.out (by first | omega | (simp; omega)) rfl _ _ rfl rfl rfl (by first | rfl | simp) ?_))
    | fail)
  intro vo2 vc2 w2 f2 c2' H2
  clear H1 cm f1 c1'
  go_wp2
  go_loopw [6, 7] (fun fv i wr => ∃ (k : Nat) (v1 v2 : Value) (es' : List Lst), k ≤ 40 ∧ i = .int .i64 k ∧ es'.length ≤ es.length + 1 + k ∧ (17 ≤ k → k < 40 → es'.length ≤ es.length + 17) ∧ (k = 40 → es'.length ≤ es.length + 18) ∧ es.length < es'.length ∧ Hid (HS FE L kb C (.slice io es.length ic) (.slice mo es.length mc) (.slice lo n lc) es w v1 v2 fv es' es' (n + k) m wr)) (fun _ i _ => 40 - (intOf i).toNat)
  case atStart => exact ⟨0, _, _, _, Nat.zero_le _, rfl, by simp, by omega, by omega, by simp, H2⟩
  case round =>
    clear H2 f2 c2'
    obtain ⟨k, v1, v2, es', hk, rfl, hel1, hel2, hel3, hel4, HH⟩ := hrel
    have hH := HH.out
    obtain ⟨fo, fc, hff, _⟩ := own_slice hH.fr
    obtain ⟨jo, jc, hjj, _⟩ := own_slice hH.kf.xi
    obtain ⟨no, nc, hnn, _⟩ := own_slice hH.kf.xm
    subst hff hjj hnn
    by_cases hlt : k < 40
    · have hlti : (k : Int) < 40 := by omega
      clear hH
      go_wp2_with (first
        | (at_builtin; go_must (refine HS.wpF FE.ok HH.out (by first | omega | (simp; omega)) rfl _ _ rfl rfl rfl (by first | rfl | simp) ?_))
        | fail)
      intro vf cf w0 HF
      clear HH
      have c1 : w0.cell? ⟨kb, 4, none⟩ = some (.slice jo es'.length jc) := HF.out.cI FE.ok
      by_cases h16 : k < 16
      · have h16i : (k : Int) < 16 := by omega
        have HH : Hid _ := HF
        clear HF
        go_wp2_with (first
          | (at_builtin; go_must (refine HS.wpI FE.ok HH.out (by first | omega | (simp; omega)) rfl _ _ rfl rfl rfl (by first | rfl | simp) ?_))
          | fail)
        intro vo1 vc1 w1 f1 c1' H1
        have cm := H1.out.cM FE.ok
        replace cm : (w1.setCell ⟨kb, 4, none⟩ (.slice vo1 (es'.length + 1) vc1)).cell? ⟨kb, 6, none⟩ = some (.slice no es'.length nc) := cm
        clear HH c1
        go_wp2_with (first
          | (at_builtin; go_must (refine HS.wpM FE.ok H1.out (by first | omega | (simp; omega)) rfl _ _ rfl rfl rfl (by first | rfl | simp) ?_))
          | fail)
        intro vo2 vc2 w2 f2 c2' H2
        clear H1 cm f1 c1'
        go_wp2
        go_roundw
        case rel => exact ⟨k + 1, _, _, _, by omega, by go_num, by simp; omega, by simp; omega, by simp; omega, by simp; omega, H2⟩
        case measure => simp [intOf]; omega
      · have h16i : ¬ (k : Int) < 16 := by omega
        by_cases h39 : k = 39
        · subst h39
          have HH : Hid _ := HF
          clear HF
          go_wp2_with (first
            | (at_builtin; go_must (refine HS.wpI FE.ok HH.out (by first | omega | (simp; omega)) rfl _ _ rfl rfl rfl (by first | rfl | simp) ?_))
            | fail)
          intro vo1 vc1 w1 f1 c1' H1
          have cm := H1.out.cM FE.ok
          replace cm : (w1.setCell ⟨kb, 4, none⟩ (.slice vo1 (es'.length + 1) vc1)).cell? ⟨kb, 6, none⟩ = some (.slice no es'.length nc) := cm
          clear HH c1
          go_wp2_with (first
            | (at_builtin; go_must (refine HS.wpM FE.ok H1.out (by first | omega | (simp; omega)) rfl _ _ rfl rfl rfl (by first | rfl | simp) ?_))
            | fail)
          intro vo2 vc2 w2 f2 c2' H2
          clear H1 cm f1 c1'
          go_wp2
          go_roundw
          case rel => exact ⟨40, _, _, _, by omega, by go_num, by simp; omega, by simp, by simp; omega, by simp; omega, H2⟩
          case measure => simp [intOf]
        · have h39i : ((k : Int) == 39) = false := by simpa using (by omega : (k : Int) ≠ 39)
          clear c1
          go_wp2
          go_roundw
          case rel => exact ⟨k + 1, _, _, es', by omega, by go_num, by omega, by omega, by omega, hel4, HF⟩
          case measure => simp [intOf]; omega
    · obtain rfl : k = 40 := by omega
      clear hH
      go_wp2
      go_end0
      exact ⟨rfl, _, _, _, es', HH.out, by simpa using hel3, hel4⟩
end Go.Proofs.Ytjojhhkbebddmaa
