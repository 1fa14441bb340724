import Derived.Test.YtjojhhkbebddmaaShP0
namespace Go.Proofs.Ytjojhhkbebddmaa
open Go.RowKit Go.PlainAid
set_option linter.unusedVariables false
set_option linter.unusedSimpArgs false
theorem row_cell {w : World} {L t s n c g i : Nat} {xs : List Value} {x : Value} (h : w.ownsRow L t s (.slice (some ⟨g, 0, none⟩) n c) n xs) (hx : xs[i]? = some x) : w.cell? ⟨g, i, none⟩ = some x := by
  have := h.cells (g := g) rfl i x hx
  rwa [addr_add, Nat.zero_add] at this
theorem own_maxLen {w : World} {L t s n : Nat} {v : Value} {xs : List Value} (h : w.ownsRow L t s v n xs) : n ≤ maxLen := by
  rcases h.2 with ⟨_, h2⟩ | ⟨g, c, cur, _, _, _, h4, h5, _⟩
  · omega
  · omega
set_option maxRecDepth 100000 in
set_option maxHeartbeats 3200000 in
/-- All is as it was left. -/
theorem whole_early {L kb : Nat} {S : ES} (w : World) (hK : KE L kb S w) :
    Calls Try.prog 28 #[.pointer (some ⟨kb, 0, none⟩)] w fun r w' => r = .returned (.bool true) ∧ ∃ q, w' = w.drewN q := by
  obtain ⟨vI, vM, vR, vN, e1, r1⟩ := S
  have c0 : w.cell? ⟨kb, 0, none⟩ = some (.bool false) := hK.blk.cell 0
  have hm1 : Marks e1 := hK.mb
  have hm2 : Marks r1 := hK.mv
  obtain ⟨io, ci, hii, _⟩ := own_slice hK.b.xi
  obtain ⟨mo, cm, hmm, _⟩ := own_slice hK.b.xm
  obtain ⟨ro, cr, hrr, _⟩ := own_slice hK.v.xi
  obtain ⟨no, cn, hnn, _⟩ := own_slice hK.v.xm
  have hel := own_maxLen hK.b.xi
  have hrl := own_maxLen hK.v.xi
  obtain ⟨ne, hne⟩ : ∃ ne, ne = e1.length := ⟨_, rfl⟩
  obtain ⟨nr, hnr⟩ : ∃ nr, nr = r1.length := ⟨_, rfl⟩
  have HNE : Hid (ne = e1.length) := hne
  have HNR : Hid (nr = r1.length) := hnr
  have HK : Hid _ := hK
  have HM : Hid _ := And.intro hm1 hm2
  simp only at hii hmm hrr hnn hel hrl
  rw [← hne] at hii hmm hel
  rw [← hnr] at hrr hnn hrl
  unfold maxLen at hel hrl
  subst hii hmm hrr hnn
  have c1 : w.cell? ⟨kb, 1, none⟩ = some (.slice io ne ci) := hK.blk.cell 1
  have c4 : w.cell? ⟨kb, 4, none⟩ = some (.slice ro nr cr) := hK.blk.cell 4
  clear hK hne hnr hm1 hm2
  go_enter Try.func28, Try.ntmps28
  go_wp2_with fail
  go_loopw [3, 4] (fun s3 _ wr => ∃ i q : Nat, i ≤ ne ∧ s3 = .int .i64 (i : Int) ∧ wr = w.drewN q) (fun s3 _ _ => ne - (intOf s3).toNat)
  case atStart => exact ⟨0, 0, Nat.zero_le _, rfl, rfl⟩
  case round =>
    obtain ⟨i, q, hie, rfl, rfl⟩ := hrel
    have c1' : (w.drewN q).cell? ⟨kb, 1, none⟩ = some (.slice io ne ci) := c1
    by_cases hi : i < ne
    · obtain ⟨e, he⟩ : ∃ e, e1[i]? = some e := ⟨e1[i]'(by rw [← HNE.out]; exact hi), List.getElem?_eq_getElem _⟩
      have hem := List.mem_of_getElem? he
      have hrow := HK.out.b.en e hem
      obtain ⟨hmk1, hmk2⟩ := HM.out.1 e hem
      obtain ⟨ev, nv, em⟩ := e
      simp only at hrow hmk1 hmk2
      have hnv := own_maxLen hrow
      unfold maxLen at hnv
      obtain ⟨vo, cv, hvv, _⟩ := own_slice hrow
      subst hvv
      have xi := HK.out.b.xi
      simp only at xi
      rw [← HNE.out] at xi
      have xm := HK.out.b.xm
      simp only at xm
      rw [← HNE.out] at xm
      obtain ⟨gi, rfl⟩ := row_ptr xi (by omega)
      obtain ⟨gm, rfl⟩ := row_ptr xm (by omega)
      have d2 : w.cell? ⟨gi, i, none⟩ = some (.slice vo nv cv) := row_cell xi (by rw [List.getElem?_map, he]; rfl)
      have d5 : w.cell? ⟨gm, i, none⟩ = some (.int .i64 em) := row_cell xm (by rw [List.getElem?_map, List.getElem?_map, he]; rfl)
      have d4 : w.cell? ⟨kb, 3, none⟩ = some (.slice (some ⟨gm, 0, none⟩) ne cm) := HK.out.blk.cell 3
      have HROW : Hid (w.ownsRow L 56 6 (.slice vo nv cv) nv (full FA nv em)) := hrow
      clear xi xm he hem hrow
      have e2' : (w.drewN q).cell? ⟨gi, i, none⟩ = some (.slice vo nv cv) := d2
      go_wp2_with fail
      go_loopw [4] (fun s4 wq => ∃ j q : Nat, j ≤ nv ∧ s4 = .int .i64 (j : Int) ∧ wq = w.drewN q) (fun s4 _ => nv - (intOf s4).toNat)
      case atStart => exact ⟨0, q, Nat.zero_le _, rfl, rfl⟩
      case round =>
        clear c1' e2'
        obtain ⟨j, q, hjn, rfl, rfl⟩ := hrel
        have f1 : (w.drewN q).cell? ⟨kb, 1, none⟩ = some (.slice (some ⟨gi, 0, none⟩) ne ci) := c1
        have f2 : (w.drewN q).cell? ⟨gi, i, none⟩ = some (.slice vo nv cv) := d2
        by_cases hj : j < nv
        · obtain ⟨gv, rfl⟩ := row_ptr HROW.out (by omega)
          have a30 : w.cell? ⟨gv, j * 6, none⟩ = some (.int .i64 (-9)) := row_cell HROW.out (full_at FA.ok (m := em) (j := 0) hj rfl)
          have f30 : (w.drewN q).cell? ⟨gv, j * 6, none⟩ = some (.int .i64 (-9)) := a30
          have a31 : w.cell? ⟨gv, j * 6 + 1, none⟩ = some (.int .i64 em) := row_cell HROW.out (full_at FA.ok (m := em) (j := 1) hj rfl)
          have f31 : (w.drewN q).cell? ⟨gv, j * 6 + 1, none⟩ = some (.int .i64 em) := a31
          have a32 : w.cell? ⟨gv, j * 6 + 2, none⟩ = some (.int .i64 0) := row_cell HROW.out (full_at FA.ok (m := em) (j := 2) hj rfl)
          have f32 : (w.drewN q).cell? ⟨gv, j * 6 + 2, none⟩ = some (.int .i64 0) := a32
          have a33 : w.cell? ⟨gv, j * 6 + 3, none⟩ = some (.int .i64 0) := row_cell HROW.out (full_at FA.ok (m := em) (j := 3) hj rfl)
          have f33 : (w.drewN q).cell? ⟨gv, j * 6 + 3, none⟩ = some (.int .i64 0) := a33
          have a34 : w.cell? ⟨gv, j * 6 + 4, none⟩ = some (.int .i64 0) := row_cell HROW.out (full_at FA.ok (m := em) (j := 4) hj rfl)
          have f34 : (w.drewN q).cell? ⟨gv, j * 6 + 4, none⟩ = some (.int .i64 0) := a34
          have a35 : w.cell? ⟨gv, j * 6 + 5, none⟩ = some (.int .i64 0) := row_cell HROW.out (full_at FA.ok (m := em) (j := 5) hj rfl)
          have f35 : (w.drewN q).cell? ⟨gv, j * 6 + 5, none⟩ = some (.int .i64 0) := a35
          have f4 : (w.drewN q).cell? ⟨kb, 3, none⟩ = some (.slice (some ⟨gm, 0, none⟩) ne cm) := d4
          have f5 : (w.drewN q).cell? ⟨gm, i, none⟩ = some (.int .i64 em) := d5
          clear HROW
          go_wp2_with fail
          go_quiet (fail)
          go_wp2_with fail
          go_roundw
          case rel => exact ⟨j + 1, _, by omega, by go_num, rfl⟩
          case measure => simp [intOf]; omega
        · go_wp2_with fail
          go_roundw
          case rel => exact ⟨i + 1, _, by omega, by go_num, rfl⟩
          case measure => simp [intOf]; omega
    · go_wp2_with fail
      go_loopw [5, 6] (fun s5 _ wr => ∃ i q : Nat, i ≤ nr ∧ s5 = .int .i64 (i : Int) ∧ wr = w.drewN q) (fun s5 _ _ => nr - (intOf s5).toNat)
      case atStart => exact ⟨0, q, Nat.zero_le _, rfl, rfl⟩
      case round =>
        clear c1'
        obtain ⟨i, q, hie, rfl, rfl⟩ := hrel
        have c4' : (w.drewN q).cell? ⟨kb, 4, none⟩ = some (.slice ro nr cr) := c4
        by_cases hi : i < nr
        · obtain ⟨e, he⟩ : ∃ e, r1[i]? = some e := ⟨r1[i]'(by rw [← HNR.out]; exact hi), List.getElem?_eq_getElem _⟩
          have hem := List.mem_of_getElem? he
          have hrow := HK.out.v.en e hem
          obtain ⟨hmk1, hmk2⟩ := HM.out.2 e hem
          obtain ⟨ev, nv, em⟩ := e
          simp only at hrow hmk1 hmk2
          have hnv := own_maxLen hrow
          unfold maxLen at hnv
          obtain ⟨vo, cv, hvv, _⟩ := own_slice hrow
          subst hvv
          have xi := HK.out.v.xi
          simp only at xi
          rw [← HNR.out] at xi
          have xm := HK.out.v.xm
          simp only at xm
          rw [← HNR.out] at xm
          obtain ⟨gi, rfl⟩ := row_ptr xi (by omega)
          obtain ⟨gm, rfl⟩ := row_ptr xm (by omega)
          have d2 : w.cell? ⟨gi, i, none⟩ = some (.slice vo nv cv) := row_cell xi (by rw [List.getElem?_map, he]; rfl)
          have d5 : w.cell? ⟨gm, i, none⟩ = some (.int .i64 em) := row_cell xm (by rw [List.getElem?_map, List.getElem?_map, he]; rfl)
          have d4 : w.cell? ⟨kb, 6, none⟩ = some (.slice (some ⟨gm, 0, none⟩) nr cn) := HK.out.blk.cell 6
          have HROW : Hid (w.ownsRow L 49 2 (.slice vo nv cv) nv (full FE nv em)) := hrow
          clear xi xm he hem hrow
          have e2' : (w.drewN q).cell? ⟨gi, i, none⟩ = some (.slice vo nv cv) := d2
          go_wp2_with fail
          go_loopw [6] (fun s6 wq => ∃ j q : Nat, j ≤ nv ∧ s6 = .int .i64 (j : Int) ∧ wq = w.drewN q) (fun s6 _ => nv - (intOf s6).toNat)
          case atStart => exact ⟨0, q, Nat.zero_le _, rfl, rfl⟩
          case round =>
            clear c4' e2'
            obtain ⟨j, q, hjn, rfl, rfl⟩ := hrel
            have f1 : (w.drewN q).cell? ⟨kb, 4, none⟩ = some (.slice (some ⟨gi, 0, none⟩) nr cr) := c4
            have f2 : (w.drewN q).cell? ⟨gi, i, none⟩ = some (.slice vo nv cv) := d2
            by_cases hj : j < nv
            · obtain ⟨gv, rfl⟩ := row_ptr HROW.out (by omega)
              have a30 : w.cell? ⟨gv, j * 2, none⟩ = some (.int .i64 (-9)) := row_cell HROW.out (full_at FE.ok (m := em) (j := 0) hj rfl)
              have f30 : (w.drewN q).cell? ⟨gv, j * 2, none⟩ = some (.int .i64 (-9)) := a30
              have a31 : w.cell? ⟨gv, j * 2 + 1, none⟩ = some (.int .i64 em) := row_cell HROW.out (full_at FE.ok (m := em) (j := 1) hj rfl)
              have f31 : (w.drewN q).cell? ⟨gv, j * 2 + 1, none⟩ = some (.int .i64 em) := a31
              have f4 : (w.drewN q).cell? ⟨kb, 6, none⟩ = some (.slice (some ⟨gm, 0, none⟩) nr cn) := d4
              have f5 : (w.drewN q).cell? ⟨gm, i, none⟩ = some (.int .i64 em) := d5
              clear HROW
              go_wp2_with fail
              go_quiet (fail)
              go_wp2_with fail
              go_roundw
              case rel => exact ⟨j + 1, _, by omega, by go_num, rfl⟩
              case measure => simp [intOf]; omega
            · go_wp2_with fail
              go_roundw
              case rel => exact ⟨i + 1, _, by omega, by go_num, rfl⟩
              case measure => simp [intOf]; omega
        · go_wp2_with fail
          go_ret
          exact ⟨rfl, q, rfl⟩
end Go.Proofs.Ytjojhhkbebddmaa
