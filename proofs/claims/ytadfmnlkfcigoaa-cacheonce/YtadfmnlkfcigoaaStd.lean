import Derived.Test.YtadfmnlkfcigoaaAgL
namespace Go.Proofs.Ytadfmnlkfcigoaa
open Go.RowKit Go.PlainAid
set_option linter.unusedVariables false
set_option linter.unusedSimpArgs false
set_option maxRecDepth 100000 in
set_option maxHeartbeats 6400000 in
theorem stands_pn (a : PA) (s : PV) (w : World) (h : PN a s w) : Calls Try.prog 17 #[.pointer (some ⟨a.pb, 0, none⟩)] w fun e w' => e = .returned (.bool true) ∧ ∃ q, w' = w.drewN q := by
  obtain ⟨s0x, s0r, mk0, z⟩ := s
  have t1 : Tail w a.L 79 z.vcl z.kc.length (z.kc.map DC.d) := h.h.all (z.e1 a.L) (by simp [PA.ents, NZ.ents])
  have t3 : Tail w a.L 3 z.vms z.ms.length (z.ms.map Iv) := h.h.all (z.e3 a.L) (by simp [PA.ents, NZ.ents])
  have hF : NFull z := h.f
  obtain ⟨vco, vcc, hvc, _, hcat⟩ := tail_form t1
  obtain ⟨vmo, vmc, hvm, _, hmat⟩ := tail_form t3
  have c2 : w.cell? ⟨a.pb, 2, none⟩ = some z.vcl := h.box.cell 2
  have c3 : w.cell? ⟨a.pb, 3, none⟩ = some z.vms := h.box.cell 3
  rw [hvc] at c2
  rw [hF.lc1] at hvm hmat
  rw [hvm] at c3
  have hn2 := hF.n2
  have HR : Hid (∀ x ∈ z.kc, World.ownsRow w a.L 32 2 x.d x.cs.length (flatC x.cs) ∧ x.cs.length ≤ 1000) := fun x hx => ⟨h.h.all (dcE a.L x) (by simp only [PA.ents, NZ.ents, NZ.dats, List.mem_cons, List.mem_append, List.mem_map]; exact Or.inr (Or.inr (Or.inr (Or.inr (Or.inl ⟨x, hx, rfl⟩))))), hF.s2 x (List.mem_append.2 (Or.inl hx))⟩
  have HFF : Hid (NFull z) := hF
  have HC : Hid _ := hcat
  have HM : Hid _ := hmat
  obtain ⟨nc, hnc⟩ : ∃ nc, nc = z.kc.length := ⟨_, rfl⟩
  rw [← hnc] at c2 c3 hn2
  have HNC : Hid (nc = z.kc.length) := hnc
  clear h hF hcat hmat hvc hvm hnc t1 t3
  go_enter Try.func17, Try.ntmps17
  go_wp2_with fail
  go_loopw [3, 4] (fun i _ wr => ∃ k q : Nat, k ≤ nc ∧ i = .int .i64 k ∧ wr = w.drewN q) (fun i _ _ => nc - (intOf i).toNat)
  case atStart => exact ⟨0, 0, Nat.zero_le _, rfl, rfl⟩
  case round =>
    obtain ⟨k, q, hk, rfl, rfl⟩ := hrel
    have d2 : (w.drewN q).cell? ⟨a.pb, 2, none⟩ = some (.slice vco nc vcc) := c2
    have d3 : (w.drewN q).cell? ⟨a.pb, 3, none⟩ = some (.slice vmo nc vmc) := c3
    by_cases hlt : k < nc
    · obtain ⟨x, hx⟩ : ∃ x, z.kc[k]? = some x := ⟨z.kc[k]'(by have := HNC.out; omega), List.getElem?_eq_getElem _⟩
      obtain ⟨mk, hx2⟩ : ∃ x, z.ms[k]? = some x := ⟨z.ms[k]'(by have := HFF.out.lc1; have := HNC.out; omega), List.getElem?_eq_getElem _⟩
      obtain ⟨g, off, rfl, hc⟩ := HC.out (by have := HNC.out; omega)
      obtain ⟨g2, off2, rfl, hc2⟩ := HM.out (by have := HNC.out; omega)
      have e1 := hc k x.d (by rw [List.getElem?_map, hx]; rfl)
      have e2 := hc2 k (.int .i64 mk) (by rw [List.getElem?_map, hx2]; rfl)
      obtain ⟨ho, hbl⟩ := HR.out x (List.mem_of_getElem? hx)
      have hmk := HFF.out.fc k _ mk hx hx2
      obtain ⟨d, cs⟩ := x
      simp only at ho hmk hbl e1
      obtain ⟨dao, dcap, hdd, _, _, hf⟩ := own_read ho
      subst hdd
      have HF2 : Hid (0 < cs.length → ∃ g, dao = some ⟨g, 0, none⟩) := fun h => by obtain ⟨g, e, _⟩ := hf h; exact ⟨g, e⟩
      have HO2 : Hid (World.ownsRow w a.L 32 2 (.slice dao cs.length dcap) cs.length (flatC cs)) := ho
      have HM2 : Hid _ := hmk
      clear hc hc2 ho hf hmk hx hx2
      go_wp2_with fail
      go_loopw [4] (fun j wr => ∃ j' q' : Nat, j' ≤ cs.length ∧ j = .int .i64 j' ∧ wr = w.drewN q') (fun j _ => cs.length - (intOf j).toNat)
      case atStart => exact ⟨0, q, Nat.zero_le _, rfl, rfl⟩
      case round =>
        obtain ⟨j, q', hj, rfl, rfl⟩ := hrel
        have p2 : (w.drewN q').cell? ⟨a.pb, 2, none⟩ = some (.slice (some ⟨g, off, none⟩) nc vcc) := c2
        have p4 : (w.drewN q').cell? ⟨a.pb, 3, none⟩ = some (.slice (some ⟨g2, off2, none⟩) nc vmc) := c3
        have p5 : (w.drewN q').cell? ⟨g, off + k, none⟩ = some (.slice dao cs.length dcap) := e1
        have p6 : (w.drewN q').cell? ⟨g2, off2 + k, none⟩ = some (.int .i64 mk) := e2
        by_cases hjl : j < cs.length
        · obtain ⟨u, hu⟩ : ∃ u, cs[j]? = some u := ⟨cs[j]'hjl, List.getElem?_eq_getElem _⟩
          obtain ⟨b, rfl⟩ := HF2.out (by omega)
          have hmu := HM2.out u (List.mem_of_getElem? hu)
          subst hmu
          have e7 : w.cell? ⟨b, j * 2, none⟩ = some (.int .i64 u.1) := (cellC HO2.out hu).1
          have p7 : (w.drewN q').cell? ⟨b, j * 2, none⟩ = some (.int .i64 u.1) := e7
          clear hu
          go_wp2_with fail
          go_quiet (fail)
          go_wp2_with fail
          go_roundw
          case rel => exact ⟨j + 1, _, by omega, by go_num, rfl⟩
          case measure => simp [intOf]; omega
        · go_wp2_with fail
          go_roundw
          case rel => exact ⟨k + 1, _, by omega, by go_num, rfl⟩
          case measure => simp [intOf]; omega
    · go_wp2_with fail
      go_ret
      exact ⟨rfl, _, rfl⟩
end Go.Proofs.Ytadfmnlkfcigoaa
