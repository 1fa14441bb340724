import Derived.Test.YtlajcaofpmjdlaaSf4
import Derived.BigQuiet
namespace Go.Proofs.Ytlajcaofpmjdlaa
open Go.RowKit Go.PlainAid
set_option linter.unusedVariables false
set_option linter.unusedSimpArgs false
/-- All as it was left: what is needed of a world. -/
structure StO (L pb : Nat) (C : Array Value) (bv hv iv mv : Value) (kb : List (Value × List UInt8)) (ki : List (Value × Nat × Int)) (w : World) : Prop where
  box : Blk w pb C 66
  c2 : C[2]? = some bv
  c3 : C[3]? = some hv
  c4 : C[4]? = some iv
  c5 : C[5]? = some mv
  tb : Tail w L 30 bv kb.length (kb.map Prod.fst)
  th : Tail w L 9 hv kb.length (kb.map fun d => strV d.2)
  ti : Tail w L 44 iv ki.length (ki.map Prod.fst)
  tm : Tail w L 3 mv ki.length (ki.map fun d => I d.2.2)
  db : ∀ d ∈ kb, w.ownsRow L 5 1 d.1 d.2.length (d.2.map B)
  di : ∀ d ∈ ki, w.ownsRow L 3 1 d.1 d.2.1 ((List.replicate d.2.1 d.2.2).map I)
theorem StO.drew {L pb : Nat} {C : Array Value} {bv hv iv mv : Value} {kb : List (Value × List UInt8)} {ki : List (Value × Nat × Int)} {w : World} (h : StO L pb C bv hv iv mv kb ki w) (q : Nat) : StO L pb C bv hv iv mv kb ki (w.drewN q) :=
  ⟨h.box, h.c2, h.c3, h.c4, h.c5, tail_same h.tb (fun _ _ => rfl), tail_same h.th (fun _ _ => rfl), tail_same h.ti (fun _ _ => rfl), tail_same h.tm (fun _ _ => rfl), fun d hd => ownsRow_same (h.db d hd) (fun _ _ => rfl), fun d hd => ownsRow_same (h.di d hd) (fun _ _ => rfl)⟩
theorem drewN2 (w : World) (a b : Nat) : (w.drewN a).drewN b = w.drewN (a + b) := by
  first
    | rfl
    | simp [World.drewN, Nat.add_assoc]
    | (unfold World.drewN; simp [Nat.add_assoc])
theorem tail_at {w : World} {L e n i : Nat} {v u : Value} {xs : List Value} (h : Tail w L e v n xs) (hu : xs[i]? = some u) : ∃ g off cap, v = .slice (some ⟨g, off, none⟩) n cap ∧ w.cell? ⟨g, off + i, none⟩ = some u := by
  rcases h.2 with ⟨e1, e2⟩ | ⟨g, off, cap, e1, _, _, _, h5⟩
  · have := (List.getElem?_eq_some_iff.1 hu).1
    have := h.1
    omega
  · exact ⟨g, off, cap, e1, h5 i u hu⟩
set_option maxRecDepth 100000 in
set_option maxHeartbeats 6400000 in
theorem stands_yes {L pb : Nat} {C : Array Value} {bv hv iv mv : Value} {kb : List (Value × List UInt8)} {ki : List (Value × Nat × Int)} (w : World) (h : StO L pb C bv hv iv mv kb ki w) (hkb : kb.length ≤ 1000) (hki : ki.length ≤ 1000) (hks : ∀ d ∈ ki, d.2.1 ≤ 1000000) :
    Calls Try.prog 43 #[.pointer (some ⟨pb, 2, none⟩)] w fun e w' => e = .returned (.bool true) ∧ ∃ q, w' = w.drewN q := by
  have HS : Hid (StO L pb C bv hv iv mv kb ki w) := h
  obtain ⟨bo, bc, hbv⟩ := tail_val h.tb
  obtain ⟨io, ic, hiv⟩ := tail_val h.ti
  have HBV : Hid (bv = .slice bo kb.length bc) := hbv
  have HIV : Hid (iv = .slice io ki.length ic) := hiv
  obtain ⟨nb, hnb⟩ : ∃ nb, nb = kb.length := ⟨_, rfl⟩
  obtain ⟨ni, hni⟩ : ∃ ni, ni = ki.length := ⟨_, rfl⟩
  have HNB : Hid (nb = kb.length) := hnb
  have HNI : Hid (ni = ki.length) := hni
  have HKS : Hid (∀ d ∈ ki, d.2.1 ≤ 1000000) := hks
  rw [← hnb] at HBV hkb
  rw [← hni] at HIV hki
  have HCS : Hid (∀ wr, (∃ q, wr = w.drewN q) → wr.cell? ⟨pb, 2, none⟩ = some (.slice bo nb bc) ∧ wr.cell? ⟨pb, 4, none⟩ = some (.slice io ni ic)) := fun wr ⟨q, e⟩ => by
    subst e
    exact ⟨((h.drew q).box.cell 2).trans (h.c2.trans (by rw [hbv, hnb])), ((h.drew q).box.cell 4).trans (h.c4.trans (by rw [hiv, hni]))⟩
  clear h hbv hiv hnb hni hks
  go_enter Try.func43, Try.ntmps43
  go_wp2_with fail
  go_loopw [3] (fun s3 wr => ∃ i : Nat, i ≤ nb ∧ s3 = .int .i64 (i : Int) ∧ ∃ q, wr = w.drewN q) (fun s3 _ => nb - (intOf s3).toNat)
  case atStart => exact ⟨0, by omega, rfl, 0, rfl⟩
  case round =>
    obtain ⟨i, hi, rfl, hq⟩ := hrel
    obtain ⟨k2, k4⟩ := HCS.out wr hq
    by_cases hlt : i < nb
    · have hlt' : i < kb.length := by rw [← HNB.out]; exact hlt
      obtain ⟨d, hd⟩ : ∃ d, kb[i]? = some d := ⟨kb[i], List.getElem?_eq_getElem hlt'⟩
      have hst : StO L pb C bv hv iv mv kb ki wr := by obtain ⟨q, e⟩ := hq; rw [e]; exact HS.out.drew q
      obtain ⟨g1, o1, b1, e1, kd⟩ := tail_at hst.tb (u := d.1) (by rw [List.getElem?_map, hd]; rfl)
      obtain ⟨g2, o2, b2, e2, ks⟩ := tail_at hst.th (u := strV d.2) (by rw [List.getElem?_map, hd]; rfl)
      have hbo : bo = some ⟨g1, o1, none⟩ := by have := HBV.out; rw [e1] at this; cases this; rfl
      have k3 : wr.cell? ⟨pb, 3, none⟩ = some (.slice (some ⟨g2, o2, none⟩) nb b2) := (hst.box.cell 3).trans (hst.c3.trans (by rw [e2, HNB.out]))
      have hcv : ∀ q, (convert 30 9 d.1).run Try.prog (wr.drewN q) = .ok (.string ⟨d.2.toArray⟩) (wr.drewN q) := fun q => conv_run (own_by ((hst.drew q).db d (List.mem_of_getElem? hd)))
      have ks' : wr.cell? ⟨g2, o2 + i, none⟩ = some (.string ⟨d.2.toArray⟩) := ks
      obtain ⟨dv, hdv⟩ : ∃ dv, dv = d.1 := ⟨_, rfl⟩
      rw [← hdv] at kd hcv
      obtain ⟨so, sc, hsl⟩ : ∃ so sc, dv = .slice so d.2.length sc := by
        obtain ⟨a, c, e, _⟩ := own_slice (hst.db d (List.mem_of_getElem? hd))
        exact ⟨a, c, hdv.trans e⟩
      obtain ⟨dl, hdl⟩ : ∃ dl, dl = d.2.length := ⟨_, rfl⟩
      rw [← hdl] at hsl
      obtain ⟨ds, hds⟩ : ∃ ds, ds = d.2 := ⟨_, rfl⟩
      rw [← hds] at hcv ks'
      have HQ : Hid (∃ q, wr = w.drewN q) := hq
      subst hbo
      subst hsl
      clear hq hst e1 e2 hd hdv hlt' ks hdl hds k4
      go_wp2_with fail
      go_quiet (fail)
      go_wp2_with fail
      go_roundw
      case rel => exact ⟨i + 1, by omega, by go_num, by obtain ⟨q, e⟩ := HQ.out; exact ⟨_, by rw [e]; exact drewN2 _ _ _⟩⟩
      case measure => simp [intOf]; omega
    · have hin : ¬ ((i : Int) < (nb : Int)) := by omega
      have HQ : Hid (∃ q, wr = w.drewN q) := hq
      clear hq
      go_wp2_with fail
      clear k2 k4
      go_loopw [4] (fun s4 wr => ∃ j : Nat, j ≤ ni ∧ s4 = .int .i64 (j : Int) ∧ ∃ q, wr = w.drewN q) (fun s4 _ => ni - (intOf s4).toNat)
      case atStart => exact ⟨0, by omega, rfl, HQ.out⟩
      case round =>
        clear HQ
        obtain ⟨j, hj, rfl, hq⟩ := hrel
        obtain ⟨k2, k4⟩ := HCS.out wr hq
        by_cases hlt : j < ni
        · have hlt' : j < ki.length := by rw [← HNI.out]; exact hlt
          obtain ⟨d, hd⟩ : ∃ d, ki[j]? = some d := ⟨ki[j], List.getElem?_eq_getElem hlt'⟩
          have HD : Hid (ki[j]? = some d) := hd
          have hdn := HKS.out d (List.mem_of_getElem? hd)
          obtain ⟨dn, hdn'⟩ : ∃ dn, dn = d.2.1 := ⟨_, rfl⟩
          have HDN : Hid (dn = d.2.1) := hdn'
          rw [← hdn'] at hdn
          have HQ : Hid (∃ q, wr = w.drewN q) := hq
          clear hq hd hlt' hdn'
          go_wp2_with fail
          clear k2 k4
          go_loopw [5] (fun s5 wr => ∃ m : Nat, m ≤ dn ∧ s5 = .int .i64 (m : Int) ∧ ∃ q, wr = w.drewN q) (fun s5 _ => dn - (intOf s5).toNat)
          case atStart => exact ⟨0, by omega, rfl, HQ.out⟩
          case round =>
            clear HQ
            obtain ⟨m, hm, rfl, hq⟩ := hrel
            obtain ⟨k2, k4⟩ := HCS.out wr hq
            have hst : StO L pb C bv hv iv mv kb ki wr := by obtain ⟨q, e⟩ := hq; rw [e]; exact HS.out.drew q
            obtain ⟨g1, o1, b1, e1, kd⟩ := tail_at hst.ti (u := d.1) (by rw [List.getElem?_map, HD.out]; rfl)
            obtain ⟨g2, o2, b2, e2, ks⟩ := tail_at hst.tm (u := I d.2.2) (by rw [List.getElem?_map, HD.out]; rfl)
            have hio : io = some ⟨g1, o1, none⟩ := by have := HIV.out; rw [e1] at this; cases this; rfl
            have k5 : wr.cell? ⟨pb, 5, none⟩ = some (.slice (some ⟨g2, o2, none⟩) ni b2) := (hst.box.cell 5).trans (hst.c5.trans (by rw [e2, HNI.out]))
            have hrow := hst.di d (List.mem_of_getElem? HD.out)
            rw [← HDN.out] at hrow
            obtain ⟨so, sc, hsl, _⟩ := own_slice hrow
            rw [hsl] at kd
            have ks' : wr.cell? ⟨g2, o2 + j, none⟩ = some (.int .i64 d.2.2) := ks
            obtain ⟨mm, hmm⟩ : ∃ mm, mm = d.2.2 := ⟨_, rfl⟩
            rw [← hmm] at ks' hrow
            have HQ : Hid (∃ q, wr = w.drewN q) := hq
            by_cases hlt3 : m < dn
            · obtain ⟨g3, hso, k6⟩ : ∃ g3, so = some ⟨g3, 0, none⟩ ∧ wr.cell? ⟨g3, m, none⟩ = some (.int .i64 mm) := by
                rcases id hrow.2 with ⟨e, e0⟩ | ⟨g, c, cur, e, hrest⟩
                · omega
                · rw [hsl] at e hrow
                  cases e
                  refine ⟨g, rfl, ?_⟩
                  have := hrow.cells (g := g) rfl m (I mm) (by rw [List.getElem?_map, List.getElem?_replicate, if_pos hlt3]; rfl)
                  rwa [addr_add, Nat.zero_add] at this
              subst hio
              subst hso
              clear hq hst e1 e2 ks hrow hsl hmm k2
              go_wp2_with fail
              go_quiet (fail)
              go_wp2_with fail
              go_roundw
              case rel => exact ⟨m + 1, by omega, by go_num, by obtain ⟨q, e⟩ := HQ.out; exact ⟨_, by rw [e]; exact drewN2 _ _ _⟩⟩
              case measure => simp [intOf]; omega
            · have hmn : ¬ ((m : Int) < (dn : Int)) := by omega
              subst hio
              clear hq hst e1 e2 ks hrow hsl hmm k2 k5 ks'
              go_wp2_with fail
              go_roundw
              case rel => exact ⟨j + 1, by omega, by go_num, HQ.out⟩
              case measure => simp [intOf]; omega
        · have hjn : ¬ ((j : Int) < (ni : Int)) := by omega
          have HQ : Hid (∃ q, wr = w.drewN q) := hq
          clear hq
          go_wp2_with fail
          go_ret
          exact ⟨rfl, HQ.out⟩
end Go.Proofs.Ytlajcaofpmjdlaa
