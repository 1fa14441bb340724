import Derived.Test.YtbjlaloofpdbfaaSh
namespace Go.Proofs.Ytbjlaloofpdbfaa
open Go.RowKit Go.PlainAid
set_option linter.unusedVariables false
set_option linter.unusedSimpArgs false
theorem Held.mem {L : Nat} {es : List (Ent L)} {w : World} (h : Held es w) {e : Ent L} (he : e ∈ es) : e.P w := h.all e he
section
variable {L : Nat} {z : NZ} {w : World}
theorem NZ.h0 (h : Held (z.ents L) w) : Tail w L 51 z.vtx z.kt.length (z.kt.map DS.d) := h.all (z.e0 L) (by simp [NZ.ents])
theorem NZ.h1 (h : Held (z.ents L) w) : Tail w L 45 z.vcl z.kc.length (z.kc.map DC.d) := h.all (z.e1 L) (by simp [NZ.ents])
theorem NZ.h2 (h : Held (z.ents L) w) : Tail w L 9 z.vtl z.tl.length (flatS z.tl) := h.all (z.e2 L) (by simp [NZ.ents])
theorem NZ.h3 (h : Held (z.ents L) w) : Tail w L 3 z.vms z.ms.length (z.ms.map I) := h.all (z.e3 L) (by simp [NZ.ents])
theorem NZ.h4 (h : Held (z.ents L) w) : Tail w L 51 z.vlt z.lt.length (z.lt.map DS.d) := h.all (z.e4 L) (by simp [NZ.ents])
theorem NZ.h5 (h : Held (z.ents L) w) : Tail w L 51 z.vwt z.wt.length (z.wt.map DS.d) := h.all (z.e5 L) (by simp [NZ.ents])
theorem NZ.h6 (h : Held (z.ents L) w) : Tail w L 45 z.vlc z.lc.length (z.lc.map DC.d) := h.all (z.e6 L) (by simp [NZ.ents])
theorem NZ.h7 (h : Held (z.ents L) w) : Tail w L 45 z.vwc z.wc.length (z.wc.map DC.d) := h.all (z.e7 L) (by simp [NZ.ents])
theorem NZ.hs (h : Held (z.ents L) w) {x : DS} (hx : x ∈ z.kt ++ (z.lt ++ z.wt)) : w.ownsRow L 9 1 x.d x.ss.length (flatS x.ss) := h.all (dsE L x) (by
  simp only [NZ.ents, NZ.dats, List.mem_append, List.mem_map] at hx ⊢
  rcases hx with hx | hx | hx
  · exact Or.inr (Or.inl ⟨x, hx, rfl⟩)
  · exact Or.inr (Or.inr (Or.inl ⟨x, hx, rfl⟩))
  · exact Or.inr (Or.inr (Or.inr (Or.inl ⟨x, hx, rfl⟩))))
theorem NZ.hc (h : Held (z.ents L) w) {x : DC} (hx : x ∈ z.kc ++ (z.lc ++ z.wc)) : w.ownsRow L 37 2 x.d x.cs.length (flatC x.cs) := h.all (dcE L x) (by
  simp only [NZ.ents, NZ.dats, List.mem_append, List.mem_map] at hx ⊢
  rcases hx with hx | hx | hx
  · exact Or.inr (Or.inr (Or.inr (Or.inr (Or.inl ⟨x, hx, rfl⟩))))
  · exact Or.inr (Or.inr (Or.inr (Or.inr (Or.inr (Or.inl ⟨x, hx, rfl⟩)))))
  · exact Or.inr (Or.inr (Or.inr (Or.inr (Or.inr (Or.inr ⟨x, hx, rfl⟩))))))
end
theorem cellC {w : World} {L n cap g i : Nat} {cs : List (Int × Int)} (h : w.ownsRow L 37 2 (.slice (some ⟨g, 0, none⟩) n cap) n (flatC cs)) {c : Int × Int} (hc : cs[i]? = some c) : w.cell? ⟨g, i * 2, none⟩ = some (.int .i64 c.1) ∧ w.cell? ⟨g, i * 2 + 1, none⟩ = some (.int .i64 c.2) := by
  have key : ∀ t u, t < 2 → ([Value.int .i64 c.1, .int .i64 c.2] : List Value)[t]? = some u → w.cell? ⟨g, i * 2 + t, none⟩ = some u := fun t u ht hu => by
    have := h.cells (g := g) rfl (i * 2 + t) u (by unfold flatC; rw [flat_at (fun c : Int × Int => [Value.int .i64 c.1, Value.int .i64 c.2]) 2 (fun _ => rfl) cs i t c hc ht]; exact hu)
    rwa [addr_add, Nat.zero_add] at this
  exact ⟨key 0 _ (by omega) rfl, key 1 _ (by omega) rfl⟩
set_option maxRecDepth 100000 in
set_option maxHeartbeats 6400000 in
theorem stands_gen {L pb : Nat} {z : NZ} (w : World) (h : Held (z.ents L) w) (hF : NFull z) (c2 : w.cell? ⟨pb, 2, none⟩ = some z.vtx) (c3 : w.cell? ⟨pb, 3, none⟩ = some z.vcl) (c4 : w.cell? ⟨pb, 4, none⟩ = some z.vtl) (c6 : w.cell? ⟨pb, 6, none⟩ = some z.vms) :
    Calls Try.prog 29 #[.pointer (some ⟨pb, 0, none⟩)] w fun e w' => e = .returned (.bool true) ∧ ∃ q, w' = w.drewN q := by
  obtain ⟨vto, vtc, hvt, _, htat⟩ := tail_form (NZ.h0 h)
  obtain ⟨vco, vcc, hvc, _, hcat⟩ := tail_form (NZ.h1 h)
  obtain ⟨vlo, vlc, hvl, _, hlat⟩ := tail_form (NZ.h2 h)
  obtain ⟨vmo, vmc, hvm, _, hmat⟩ := tail_form (NZ.h3 h)
  rw [hvt] at c2
  rw [hvc] at c3
  rw [hF.lt1] at hvl hlat
  rw [hF.lc1] at hvm hmat
  rw [hvl] at c4
  rw [hvm] at c6
  have hn := hF.n1
  have hn2 := hF.n2
  have HH : Hid (Held (z.ents L) w) := h
  have HFF : Hid (NFull z) := hF
  have HT : Hid _ := htat
  have HC : Hid _ := hcat
  have HL : Hid _ := hlat
  have HM : Hid _ := hmat
  obtain ⟨nt, hnt⟩ : ∃ nt, nt = z.kt.length := ⟨_, rfl⟩
  obtain ⟨nc, hnc⟩ : ∃ nc, nc = z.kc.length := ⟨_, rfl⟩
  rw [← hnt] at c2 c4 hn
  rw [← hnc] at c3 c6 hn2
  have HNT : Hid (nt = z.kt.length) := hnt
  have HNC : Hid (nc = z.kc.length) := hnc
  clear h hF htat hcat hlat hmat hvt hvc hvl hvm hnt hnc
  go_enter Try.func29, Try.ntmps29
  go_wp2_with fail
  go_loopw [3, 4] (fun i _ wr => ∃ k q : Nat, k ≤ nt ∧ i = .int .i64 k ∧ wr = w.drewN q) (fun i _ _ => nt - (intOf i).toNat)
  case atStart => exact ⟨0, 0, Nat.zero_le _, rfl, rfl⟩
  case round =>
    obtain ⟨k, q, hk, rfl, rfl⟩ := hrel
    have d2 : (w.drewN q).cell? ⟨pb, 2, none⟩ = some (.slice vto nt vtc) := c2
    have d4 : (w.drewN q).cell? ⟨pb, 4, none⟩ = some (.slice vlo nt vlc) := c4
    by_cases hlt : k < nt
    · obtain ⟨x, hx⟩ : ∃ x, z.kt[k]? = some x := ⟨z.kt[k]'(by have := HNT.out; omega), List.getElem?_eq_getElem _⟩
      obtain ⟨mk, hx2⟩ : ∃ x, z.tl[k]? = some x := ⟨z.tl[k]'(by have := HFF.out.lt1; have := HNT.out; omega), List.getElem?_eq_getElem _⟩
      obtain ⟨g, off, rfl, hc⟩ := HT.out (by have := HNT.out; omega)
      obtain ⟨g2, off2, rfl, hc2⟩ := HL.out (by have := HNT.out; omega)
      have e1 := hc k x.d (by rw [List.getElem?_map, hx]; rfl)
      have e2 := hc2 k (.string ⟨mk.toArray⟩) (by unfold flatS; rw [List.getElem?_map, hx2]; rfl)
      have hmem : x ∈ z.kt ++ (z.lt ++ z.wt) := List.mem_append.2 (Or.inl (List.mem_of_getElem? hx))
      have ho := NZ.hs HH.out hmem
      have hmk := HFF.out.ft k _ mk hx hx2
      have hbl := HFF.out.s1 _ hmem
      obtain ⟨d, ss⟩ := x
      simp only at ho hmk hbl e1
      obtain ⟨dao, dcap, rfl, _, _, hf⟩ := own_read ho
      have HF2 : Hid _ := hf
      have HM2 : Hid _ := hmk
      clear hc hc2 ho hf hmk hmem hx hx2
      go_wp2_with fail
      go_loopw [4] (fun j wr => ∃ j' q' : Nat, j' ≤ ss.length ∧ j = .int .i64 j' ∧ wr = w.drewN q') (fun j _ => ss.length - (intOf j).toNat)
      case atStart => exact ⟨0, q, Nat.zero_le _, rfl, rfl⟩
      case round =>
        obtain ⟨j, q', hj, rfl, rfl⟩ := hrel
        have p2 : (w.drewN q').cell? ⟨pb, 2, none⟩ = some (.slice (some ⟨g, off, none⟩) nt vtc) := c2
        have p4 : (w.drewN q').cell? ⟨pb, 4, none⟩ = some (.slice (some ⟨g2, off2, none⟩) nt vlc) := c4
        have p5 : (w.drewN q').cell? ⟨g, off + k, none⟩ = some (.slice dao ss.length dcap) := e1
        have p6 : (w.drewN q').cell? ⟨g2, off2 + k, none⟩ = some (.string ⟨mk.toArray⟩) := e2
        by_cases hjl : j < ss.length
        · obtain ⟨u, hu⟩ : ∃ u, ss[j]? = some u := ⟨ss[j]'hjl, List.getElem?_eq_getElem _⟩
          obtain ⟨b, rfl, _, _, hcc⟩ := HF2.out (by omega)
          have hmu := HM2.out u (List.mem_of_getElem? hu)
          subst hmu
          have e7 : w.cell? ⟨b, j, none⟩ = some (.string ⟨u.toArray⟩) := hcc j _ (by unfold flatS; rw [List.getElem?_map, hu]; rfl)
          have p7 : (w.drewN q').cell? ⟨b, j, none⟩ = some (.string ⟨u.toArray⟩) := e7
          clear hcc hu
          go_wp2_with fail
          go_quiet (fail)
          go_wp2_with fail
          go_roundw
          case rel => exact ⟨j + 1, _, by omega, by go_num, rfl⟩
          case measure => simp [intOf]; omega
        · go_wp2_with fail
          go_roundw
          case rel => exact ⟨k + 1, _, by omega, by go_num, rfl⟩
          case measure => simp [intOf]; omega
    · go_wp2_with fail
      go_loopw [5, 6] (fun i _ wr => ∃ k q : Nat, k ≤ nc ∧ i = .int .i64 k ∧ wr = w.drewN q) (fun i _ _ => nc - (intOf i).toNat)
      case atStart => exact ⟨0, q, Nat.zero_le _, rfl, rfl⟩
      case round =>
        obtain ⟨k, q, hk, rfl, rfl⟩ := hrel
        have d3 : (w.drewN q).cell? ⟨pb, 3, none⟩ = some (.slice vco nc vcc) := c3
        have d6 : (w.drewN q).cell? ⟨pb, 6, none⟩ = some (.slice vmo nc vmc) := c6
        by_cases hlt : k < nc
        · obtain ⟨x, hx⟩ : ∃ x, z.kc[k]? = some x := ⟨z.kc[k]'(by have := HNC.out; omega), List.getElem?_eq_getElem _⟩
          obtain ⟨mk, hx2⟩ : ∃ x, z.ms[k]? = some x := ⟨z.ms[k]'(by have := HFF.out.lc1; have := HNC.out; omega), List.getElem?_eq_getElem _⟩
          obtain ⟨g, off, rfl, hc⟩ := HC.out (by have := HNC.out; omega)
          obtain ⟨g2, off2, rfl, hc2⟩ := HM.out (by have := HNC.out; omega)
          have e1 := hc k x.d (by rw [List.getElem?_map, hx]; rfl)
          have e2 := hc2 k (.int .i64 mk) (by rw [List.getElem?_map, hx2]; rfl)
          have hmem : x ∈ z.kc ++ (z.lc ++ z.wc) := List.mem_append.2 (Or.inl (List.mem_of_getElem? hx))
          have ho := NZ.hc HH.out hmem
          have hmk := HFF.out.fc k _ mk hx hx2
          have hbl := HFF.out.s2 _ hmem
          obtain ⟨d, cs⟩ := x
          simp only at ho hmk hbl e1
          obtain ⟨dao, dcap, hdd, _, _, hf⟩ := own_read ho
          subst hdd
          have HF2 : Hid (0 < cs.length → ∃ g, dao = some ⟨g, 0, none⟩) := fun h => by obtain ⟨g, e, _⟩ := hf h; exact ⟨g, e⟩
          have HO2 : Hid (World.ownsRow w L 37 2 (.slice dao cs.length dcap) cs.length (flatC cs)) := ho
          have HM2 : Hid _ := hmk
          clear hc hc2 ho hf hmk hmem hx hx2
          go_wp2_with fail
          go_loopw [6] (fun j wr => ∃ j' q' : Nat, j' ≤ cs.length ∧ j = .int .i64 j' ∧ wr = w.drewN q') (fun j _ => cs.length - (intOf j).toNat)
          case atStart => exact ⟨0, q, Nat.zero_le _, rfl, rfl⟩
          case round =>
            obtain ⟨j, q', hj, rfl, rfl⟩ := hrel
            have p2 : (w.drewN q').cell? ⟨pb, 3, none⟩ = some (.slice (some ⟨g, off, none⟩) nc vcc) := c3
            have p4 : (w.drewN q').cell? ⟨pb, 6, none⟩ = some (.slice (some ⟨g2, off2, none⟩) nc vmc) := c6
            have p5 : (w.drewN q').cell? ⟨g, off + k, none⟩ = some (.slice dao cs.length dcap) := e1
            have p6 : (w.drewN q').cell? ⟨g2, off2 + k, none⟩ = some (.int .i64 mk) := e2
            by_cases hjl : j < cs.length
            · obtain ⟨u, hu⟩ : ∃ u, cs[j]? = some u := ⟨cs[j]'hjl, List.getElem?_eq_getElem _⟩
              obtain ⟨b, rfl⟩ := HF2.out (by omega)
              have hmu := HM2.out u (List.mem_of_getElem? hu)
              subst hmu
              have e7 : w.cell? ⟨b, j * 2, none⟩ = some (.int .i64 u.1) := (cellC HO2.out hu).1
              have p7 : (w.drewN q').cell? ⟨b, j * 2, none⟩ = some (.int .i64 u.1) := e7
              clear hu
              go_wp2_with fail
              go_quiet (fail)
              go_wp2_with fail
              go_roundw
              case rel => exact ⟨j + 1, _, by omega, by go_num, rfl⟩
              case measure => simp [intOf]; omega
            · go_wp2_with fail
              go_roundw
              case rel => exact ⟨k + 1, _, by omega, by go_num, rfl⟩
              case measure => simp [intOf]; omega
        · go_wp2_with fail
          go_ret
          exact ⟨rfl, _, rfl⟩
end Go.Proofs.Ytbjlaloofpdbfaa
