import Derived.Test.YtgohjkamikpdcaaPut
namespace Go.Proofs.Ytgohjkamikpdcaa
open Go.RowKit Go.PlainAid
set_option linter.unusedVariables false
set_option linter.unusedSimpArgs false
theorem row_ptr {w : World} {L t s n c : Nat} {ao : Option Addr} {xs : List Value} (h : w.ownsRow L t s (.slice ao n c) n xs) (h0 : 0 < n) : ∃ g, ao = some ⟨g, 0, none⟩ := by
  rcases h.2 with ⟨h1, h2⟩ | ⟨g2, c, cur, h1, _⟩
  · omega
  · simp only [Value.slice.injEq] at h1
    exact ⟨g2, h1.1⟩
theorem row_cell {w : World} {L t s n c g i : Nat} {xs : List Value} {x : Value} (h : w.ownsRow L t s (.slice (some ⟨g, 0, none⟩) n c) n xs) (hx : xs[i]? = some x) : w.cell? ⟨g, i, none⟩ = some x := by
  have := h.cells (g := g) rfl i x hx
  rwa [addr_add, Nat.zero_add] at this
theorem fullI_at {n j : Nat} {m : Int} (hj : j < n) : (fullI n m)[j]? = some (.int .i64 (-1000 - m)) := by simp [fullI, I, hj]
theorem fullR_at {n j : Nat} {m : Int} (hj : j < n) : (fullR n m)[j * 2]? = some (.int .i64 (-1000 - m)) ∧ (fullR n m)[j * 2 + 1]? = some (.int .i64 0) :=
  flatR_get (rs := List.replicate n (-1000 - m, 0)) (k := j) (p := (-1000 - m, 0)) (by simp [hj])
theorem own_maxLen {w : World} {L t s n : Nat} {v : Value} {xs : List Value} (h : w.ownsRow L t s v n xs) : n ≤ maxLen := by
  rcases h.2 with ⟨_, h2⟩ | ⟨g, c, cur, _, _, _, h4, h5, _⟩
  · omega
  · omega
set_option maxRecDepth 100000 in
set_option maxHeartbeats 3200000 in
/-- All is as it was left. -/
theorem whole_early {L kb : Nat} {vI vM vR vN : Value} {e1 r1 : List Ent} (w : World) (hK : KE L kb vI vM vR vN e1 e1 r1 r1 w) (hm1 : Marks e1) (hm2 : Marks r1) :
    Calls Try.prog 30 #[.pointer (some ⟨kb, 0, none⟩)] w fun r w' => r = .returned (.bool true) ∧ ∃ q, w' = w.drewN q := by
  have c0 : w.cell? ⟨kb, 0, none⟩ = some (.bool false) := hK.blk.cell 0
  obtain ⟨io, ci, hii, _⟩ := own_slice hK.xi
  obtain ⟨mo, cm, hmm, _⟩ := own_slice hK.xm
  obtain ⟨ro, cr, hrr, _⟩ := own_slice hK.yi
  obtain ⟨no, cn, hnn, _⟩ := own_slice hK.ym
  have hel := own_maxLen hK.xi
  have hrl := own_maxLen hK.yi
  obtain ⟨ne, hne⟩ : ∃ ne, ne = e1.length := ⟨_, rfl⟩
  obtain ⟨nr, hnr⟩ : ∃ nr, nr = r1.length := ⟨_, rfl⟩
  have HNE : Hid (ne = e1.length) := hne
  have HNR : Hid (nr = r1.length) := hnr
  have HK : Hid _ := hK
  have HM : Hid _ := And.intro hm1 hm2
  rw [← hne] at hii hmm hel
  rw [← hnr] at hrr hnn hrl
  unfold maxLen at hel hrl
  subst hii hmm hrr hnn
  have c1 : w.cell? ⟨kb, 1, none⟩ = some (.slice io ne ci) := hK.blk.cell 1
  have c4 : w.cell? ⟨kb, 4, none⟩ = some (.slice ro nr cr) := hK.blk.cell 4
  clear hK hne hnr hm1 hm2
  go_enter Try.func30, Try.ntmps30
  go_wp2_with fail
  go_loopw [3, 4] (fun s3 _ wr => ∃ i q : Nat, i ≤ ne ∧ s3 = .int .i64 (i : Int) ∧ wr = w.drewN q) (fun s3 _ _ => ne - (intOf s3).toNat)
  case atStart => exact ⟨0, 0, Nat.zero_le _, rfl, rfl⟩
  case round =>
    obtain ⟨i, q, hie, rfl, rfl⟩ := hrel
    have c1' : (w.drewN q).cell? ⟨kb, 1, none⟩ = some (.slice io ne ci) := c1
    by_cases hi : i < ne
    · obtain ⟨e, he⟩ : ∃ e, e1[i]? = some e := ⟨e1[i]'(by rw [← HNE.out]; exact hi), List.getElem?_eq_getElem _⟩
      have hem := List.mem_of_getElem? he
      have hrow := HK.out.en e hem
      obtain ⟨hmk1, hmk2⟩ := HM.out.1 e hem
      obtain ⟨ev, nv, em⟩ := e
      simp only at hrow hmk1 hmk2
      have hnv := own_maxLen hrow
      unfold maxLen at hnv
      obtain ⟨vo, cv, hvv, _⟩ := own_slice hrow
      subst hvv
      have xi := HK.out.xi
      rw [← HNE.out] at xi
      have xm := HK.out.xm
      rw [← HNE.out] at xm
      obtain ⟨gi, rfl⟩ := row_ptr xi (by omega)
      obtain ⟨gm, rfl⟩ := row_ptr xm (by omega)
      have d2 : w.cell? ⟨gi, i, none⟩ = some (.slice vo nv cv) := row_cell xi (by rw [List.getElem?_map, he]; rfl)
      have d5 : w.cell? ⟨gm, i, none⟩ = some (.int .i64 em) := row_cell xm (by rw [List.getElem?_map, List.getElem?_map, he]; rfl)
      have d4 : w.cell? ⟨kb, 3, none⟩ = some (.slice (some ⟨gm, 0, none⟩) ne cm) := HK.out.blk.cell 3
      have HROW : Hid (w.ownsRow L 3 1 (.slice vo nv cv) nv (fullI nv em)) := hrow
      clear xi xm he hem hrow
      have e2' : (w.drewN q).cell? ⟨gi, i, none⟩ = some (.slice vo nv cv) := d2
      obtain ⟨z, hz⟩ : ∃ z, z = -1000 - em := ⟨_, rfl⟩
      have hwm : IntKind.i64.wrap (-1000 - em) = z := by rw [IntKind.wrap_i64]; omega
      have HZ : Hid _ := hz
      clear hz
      go_wp2_with fail
      go_loopw [4] (fun s4 wq => ∃ j q : Nat, j ≤ nv ∧ s4 = .int .i64 (j : Int) ∧ wq = w.drewN q) (fun s4 _ => nv - (intOf s4).toNat)
      case atStart => exact ⟨0, q, Nat.zero_le _, rfl, rfl⟩
      case round =>
        clear c1' e2'
        obtain ⟨j, q, hjn, rfl, rfl⟩ := hrel
        have f1 : (w.drewN q).cell? ⟨kb, 1, none⟩ = some (.slice (some ⟨gi, 0, none⟩) ne ci) := c1
        have f2 : (w.drewN q).cell? ⟨gi, i, none⟩ = some (.slice vo nv cv) := d2
        by_cases hj : j < nv
        · obtain ⟨gv, rfl⟩ := row_ptr HROW.out (by omega)
          have a3 : w.cell? ⟨gv, j, none⟩ = some (.int .i64 z) := by rw [HZ.out]; exact row_cell HROW.out (fullI_at hj)
          have f3 : (w.drewN q).cell? ⟨gv, j, none⟩ = some (.int .i64 z) := a3
          have f4 : (w.drewN q).cell? ⟨kb, 3, none⟩ = some (.slice (some ⟨gm, 0, none⟩) ne cm) := d4
          have f5 : (w.drewN q).cell? ⟨gm, i, none⟩ = some (.int .i64 em) := d5
          clear HROW
          go_wp2_with fail
          go_quiet (fail)
          go_wp2_with fail
          go_roundw
          case rel => exact ⟨j + 1, _, by omega, by go_num, rfl⟩
          case measure => simp [intOf]; omega
        · go_wp2_with fail
          go_roundw
          case rel => exact ⟨i + 1, _, by omega, by go_num, rfl⟩
          case measure => simp [intOf]; omega
    · go_wp2_with fail
      go_loopw [5, 6] (fun s5 _ wr => ∃ i q : Nat, i ≤ nr ∧ s5 = .int .i64 (i : Int) ∧ wr = w.drewN q) (fun s5 _ _ => nr - (intOf s5).toNat)
      case atStart => exact ⟨0, q, Nat.zero_le _, rfl, rfl⟩
      case round =>
        clear c1'
        obtain ⟨i, q, hie, rfl, rfl⟩ := hrel
        have c4' : (w.drewN q).cell? ⟨kb, 4, none⟩ = some (.slice ro nr cr) := c4
        by_cases hi : i < nr
        · obtain ⟨e, he⟩ : ∃ e, r1[i]? = some e := ⟨r1[i]'(by rw [← HNR.out]; exact hi), List.getElem?_eq_getElem _⟩
          have hem := List.mem_of_getElem? he
          have hrow := HK.out.rn e hem
          obtain ⟨hmk1, hmk2⟩ := HM.out.2 e hem
          obtain ⟨ev, nv, em⟩ := e
          simp only at hrow hmk1 hmk2
          have hnv := own_maxLen hrow
          unfold maxLen at hnv
          obtain ⟨vo, cv, hvv, _⟩ := own_slice hrow
          subst hvv
          have xi := HK.out.yi
          rw [← HNR.out] at xi
          have xm := HK.out.ym
          rw [← HNR.out] at xm
          obtain ⟨gi, rfl⟩ := row_ptr xi (by omega)
          obtain ⟨gm, rfl⟩ := row_ptr xm (by omega)
          have d2 : w.cell? ⟨gi, i, none⟩ = some (.slice vo nv cv) := row_cell xi (by rw [List.getElem?_map, he]; rfl)
          have d5 : w.cell? ⟨gm, i, none⟩ = some (.int .i64 em) := row_cell xm (by rw [List.getElem?_map, List.getElem?_map, he]; rfl)
          have d4 : w.cell? ⟨kb, 6, none⟩ = some (.slice (some ⟨gm, 0, none⟩) nr cn) := HK.out.blk.cell 6
          have HROW : Hid (w.ownsRow L 38 2 (.slice vo nv cv) nv (fullR nv em)) := hrow
          clear xi xm he hem hrow
          have e2' : (w.drewN q).cell? ⟨gi, i, none⟩ = some (.slice vo nv cv) := d2
          obtain ⟨z, hz⟩ : ∃ z, z = -1000 - em := ⟨_, rfl⟩
          have hwm : IntKind.i64.wrap (-1000 - em) = z := by rw [IntKind.wrap_i64]; omega
          have HZ : Hid _ := hz
          clear hz
          go_wp2_with fail
          go_loopw [6] (fun s6 wq => ∃ j q : Nat, j ≤ nv ∧ s6 = .int .i64 (j : Int) ∧ wq = w.drewN q) (fun s6 _ => nv - (intOf s6).toNat)
          case atStart => exact ⟨0, q, Nat.zero_le _, rfl, rfl⟩
          case round =>
            clear c4' e2'
            obtain ⟨j, q, hjn, rfl, rfl⟩ := hrel
            have f1 : (w.drewN q).cell? ⟨kb, 4, none⟩ = some (.slice (some ⟨gi, 0, none⟩) nr cr) := c4
            have f2 : (w.drewN q).cell? ⟨gi, i, none⟩ = some (.slice vo nv cv) := d2
            by_cases hj : j < nv
            · obtain ⟨gv, rfl⟩ := row_ptr HROW.out (by omega)
              have a3 : w.cell? ⟨gv, j * 2, none⟩ = some (.int .i64 z) := by rw [HZ.out]; exact row_cell HROW.out (fullR_at hj).1
              have f3 : (w.drewN q).cell? ⟨gv, j * 2, none⟩ = some (.int .i64 z) := a3
              have a3' : w.cell? ⟨gv, j * 2 + 1, none⟩ = some (.int .i64 0) := row_cell HROW.out (fullR_at hj).2
              have f3' : (w.drewN q).cell? ⟨gv, j * 2 + 1, none⟩ = some (.int .i64 0) := a3'
              have f4 : (w.drewN q).cell? ⟨kb, 6, none⟩ = some (.slice (some ⟨gm, 0, none⟩) nr cn) := d4
              have f5 : (w.drewN q).cell? ⟨gm, i, none⟩ = some (.int .i64 em) := d5
              clear HROW
              go_wp2_with fail
              go_quiet (fail)
              go_wp2_with fail
              go_roundw
              case rel => exact ⟨j + 1, _, by omega, by go_num, rfl⟩
              case measure => simp [intOf]; omega
            · go_wp2_with fail
              go_roundw
              case rel => exact ⟨i + 1, _, by omega, by go_num, rfl⟩
              case measure => simp [intOf]; omega
        · go_wp2_with fail
          go_ret
          exact ⟨rfl, q, rfl⟩
end Go.Proofs.Ytgohjkamikpdcaa
