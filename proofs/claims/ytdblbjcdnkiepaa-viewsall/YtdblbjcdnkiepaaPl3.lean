import Derived.Test.YtdblbjcdnkiepaaBs0
namespace Go.Proofs.Ytdblbjcdnkiepaa
open Go.RowKit Go.PlainAid Go.MapKept
set_option linter.unusedVariables false
set_option linter.unusedSimpArgs false
set_option maxRecDepth 100000 in
set_option maxHeartbeats 3200000 in
theorem played_3 {pb : Nat} {ov : Value} (o : OpA) (w : World) (Q : World → Prop) (hc : ∀ X, Below w.heap.size w X → Calls Try.prog 43 #[.pointer (some ⟨pb, 0, none⟩)] X fun e w' => e = .returned (.bool true) ∧ Q w') (hk : o.k = 3) :
    Calls Try.prog 33 #[.pointer (some ⟨pb, 0, none⟩), .agg #[.int .i64 o.k, .int .i64 o.who, .int .i64 o.a, .int .i64 o.b, .int .i64 o.h, .string ⟨o.n.toArray⟩, .int .i64 o.d, .int .i64 o.u, .slice o.la o.K o.cap], ov] w fun e w' => e = .returned (.bool true) ∧ Q w' := by
  obtain ⟨ob, hob⟩ : ∃ ob, ob = w.heap.size := ⟨_, rfl⟩
  obtain ⟨X, hX⟩ : ∃ X, X = w.alloc (.cells #[.int .i64 o.k, .int .i64 o.who, .int .i64 o.a, .int .i64 o.b, .int .i64 o.h, .string ⟨o.n.toArray⟩, .int .i64 o.d, .int .i64 o.u, .slice o.la o.K o.cap] 92) := ⟨_, rfl⟩
  have hbX : Below w.heap.size w X := by rw [hX]; exact (Below.refl _ _).alloc (Nat.le_refl _) _
  have hBo : Blk X ob #[.int .i64 o.k, .int .i64 o.who, .int .i64 o.a, .int .i64 o.b, .int .i64 o.h, .string ⟨o.n.toArray⟩, .int .i64 o.d, .int .i64 o.u, .slice o.la o.K o.cap] 92 := by rw [hX, hob]; exact heap_alloc_new w _
  have HC : Hid _ := hc X hbX
  have x0 : X.cell? ⟨ob, 0, none⟩ = some (.int .i64 o.k) := hBo.cell 0
  have x5 : X.cell? ⟨ob, 5, none⟩ = some (.string ⟨o.n.toArray⟩) := hBo.cell 5
  have hk1 : (o.k == 3) = true := by simpa using hk
  have hk2 : (o.k == 1) = false := by simp [hk]
  have hk3 : (o.k == 2) = false := by simp [hk]
  have hk4 : (o.k == 3) = true := by simp [hk]
  have hk5 : (o.k == 4) = false := by simp [hk]
  clear hk hc hbX hBo
  go_enter Try.func33, Try.ntmps33
  go_upto_region 1 with fail
  rw [← hX, ← hob]
  clear hX hob
  go_wp2_with fail
  refine Calls.mono HC.out ?_
  rintro e9 w9 ⟨rfl, hQ⟩
  have HQ : Hid (Q w9) := hQ
  clear hQ HC x0 x5
  go_wp2_with fail
  go_ret
  exact ⟨rfl, HQ.out⟩
set_option maxRecDepth 100000 in
set_option maxHeartbeats 3200000 in
theorem played_5 {pb : Nat} {ov : Value} (o : OpA) (w : World) (Q : World → Prop) (hc : ∀ X, Below w.heap.size w X → Calls Try.prog 45 #[.pointer (some ⟨pb, 0, none⟩), .string ⟨o.n.toArray⟩] X fun e w' => e = .returned (.bool true) ∧ Q w') (hk : o.k = 5) :
    Calls Try.prog 33 #[.pointer (some ⟨pb, 0, none⟩), .agg #[.int .i64 o.k, .int .i64 o.who, .int .i64 o.a, .int .i64 o.b, .int .i64 o.h, .string ⟨o.n.toArray⟩, .int .i64 o.d, .int .i64 o.u, .slice o.la o.K o.cap], ov] w fun e w' => e = .returned (.bool true) ∧ Q w' := by
  obtain ⟨ob, hob⟩ : ∃ ob, ob = w.heap.size := ⟨_, rfl⟩
  obtain ⟨X, hX⟩ : ∃ X, X = w.alloc (.cells #[.int .i64 o.k, .int .i64 o.who, .int .i64 o.a, .int .i64 o.b, .int .i64 o.h, .string ⟨o.n.toArray⟩, .int .i64 o.d, .int .i64 o.u, .slice o.la o.K o.cap] 92) := ⟨_, rfl⟩
  have hbX : Below w.heap.size w X := by rw [hX]; exact (Below.refl _ _).alloc (Nat.le_refl _) _
  have hBo : Blk X ob #[.int .i64 o.k, .int .i64 o.who, .int .i64 o.a, .int .i64 o.b, .int .i64 o.h, .string ⟨o.n.toArray⟩, .int .i64 o.d, .int .i64 o.u, .slice o.la o.K o.cap] 92 := by rw [hX, hob]; exact heap_alloc_new w _
  have HC : Hid _ := hc X hbX
  have x0 : X.cell? ⟨ob, 0, none⟩ = some (.int .i64 o.k) := hBo.cell 0
  have x5 : X.cell? ⟨ob, 5, none⟩ = some (.string ⟨o.n.toArray⟩) := hBo.cell 5
  have hk1 : (o.k == 5) = true := by simpa using hk
  have hk2 : (o.k == 1) = false := by simp [hk]
  have hk3 : (o.k == 2) = false := by simp [hk]
  have hk4 : (o.k == 3) = false := by simp [hk]
  have hk5 : (o.k == 4) = false := by simp [hk]
  clear hk hc hbX hBo
  go_enter Try.func33, Try.ntmps33
  go_upto_region 1 with fail
  rw [← hX, ← hob]
  clear hX hob
  go_wp2_with fail
  refine Calls.mono HC.out ?_
  rintro e9 w9 ⟨rfl, hQ⟩
  have HQ : Hid (Q w9) := hQ
  clear hQ HC x0 x5
  go_wp2_with fail
  go_ret
  exact ⟨rfl, HQ.out⟩
theorem played_bs {L0 N M kb : Nat} {x : PX} {R : List PX} {ds ks ov : Value} {us vs : List UU} (o : OpA) (w : World) (h : BS L0 N M kb (x :: R) ds ks us vs w) (hM : M ≤ 300) (hN : N ≤ 16) (ho : o.ok) (hf : FromV w o.la o.es) (hfb : 0 < o.K → ∀ b off, o.la = some ⟨b, off, none⟩ → b < L0) (hov : Oth ov w) :
    Calls Try.prog 33 #[.pointer (some ⟨x.i.pb, 0, none⟩), .agg #[.int .i64 o.k, .int .i64 o.who, .int .i64 o.a, .int .i64 o.b, .int .i64 o.h, .string ⟨o.n.toArray⟩, .int .i64 o.d, .int .i64 o.u, .slice o.la o.K o.cap], ov] w fun e w' => e = .returned (.bool true) ∧ ∃ x' ds' ks' us' vs', x'.i = x.i ∧ BS L0 N (M + 1) kb (x' :: R) ds' ks' us' vs' w' ∧ Chg (fun k => L0 ≤ k) w w' := by
  have hx := h.head
  by_cases h3 : o.k = 3
  · refine played_3 o w _ (fun X hb => ?_) h3
    have hX := h.more hb
    have e1 : w.heap.size ≤ X.heap.size := hb.size
    have hmo : ∀ u ∈ us, u.mo = .slice none 0 0 := fun u hu => by obtain ⟨_, _, _, _, e⟩ := h.hu u hu; exact e
    have hds : X.ownsRow L0 106 3 ds (us.map fun u : UU => (u.l, u.w)).length (flatD (us.map fun u : UU => (u.l, u.w))) := by rw [flatDU us hmo, List.length_map]; exact hX.dsr
    refine (digests_any (ents := us.map fun u => (u.l, u.w)) X hX.head.pp hM hX.kbx hds (by rw [List.length_map]; have := h.ul; omega) hX.rv hX.head.nd (hX.rr.all (knR x) (List.mem_append.2 (Or.inl (List.mem_map.2 ⟨x, List.mem_cons_self .., rfl⟩)))) hX.head.nk hX.lo).mono ?_
    rintro e w' ⟨rfl, D, ds', lv, wv, dg', hD, hd, _⟩
    obtain ⟨x', ds2, us2, a1, a2, a3⟩ := hX.digest hM hD hd
    exact ⟨rfl, x', ds2, ks, us2, vs, a1, a2, (Chg.ofBelow _ hb).trans a3 (fun _ _ h => h)⟩
  by_cases h5 : o.k = 5
  · refine played_5 o w _ (fun X hb => ?_) h5
    have hX := h.more hb
    have hmo : ∀ u ∈ vs, u.mo = .slice none 0 0 := fun u hu => by obtain ⟨_, _, _, _, e⟩ := h.hv u hu; exact e
    have hks : X.ownsRow L0 109 3 ks (vs.map fun u : UU => (u.l, u.w)).length (flatD (vs.map fun u : UU => (u.l, u.w))) := by rw [flatDU vs hmo, List.length_map]; exact hX.ksr
    refine (knows_any (ents := vs.map fun u => (u.l, u.w)) o.n X hX.head.pp hM hN hX.kbx hks (by rw [List.length_map]; have := h.vl; omega) hX.rr hX.head.nk (hX.rv.all (dgR x) (List.mem_append.2 (Or.inl (List.mem_map.2 ⟨x, List.mem_cons_self .., rfl⟩)))) hX.head.nd hX.lo).mono ?_
    rintro e w' ⟨rfl, D, ks', lv, wv, kn', hD, hd, _⟩
    obtain ⟨x', ks2, vs2, a1, a2, a3⟩ := hX.knows hN hD hd
    exact ⟨rfl, x', ds, ks2, us, vs2, a1, a2, (Chg.ofBelow _ hb).trans a3 (fun _ _ h => h)⟩
  refine (played_tk o w hx.pp hM hN ho hf (fun h0 b off e => ?_) hov h3 h5).mono ?_
  · have := hfb h0 b off e
    refine ⟨Nat.lt_of_lt_of_le this h.lo, fun e => ?_, fun e => ?_, fun e => ?_⟩
    · have := hx.lo.2.2; omega
    · have := hx.pp.rv.lo; omega
    · have := (ownsRow_lt hx.pp.rv.row e).1; omega
  · rintro e w' ⟨rfl, hp⟩
    obtain ⟨x', a1, a2, a3⟩ := h.step hp
    exact ⟨rfl, x', ds, ks, us, vs, a1, a2, a3⟩
end Go.Proofs.Ytdblbjcdnkiepaa
