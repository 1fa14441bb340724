import Derived.Test.YtbjlaloofpdbfaaQ4
import Derived.Test.YtbjlaloofpdbfaaAgS
import Derived.Test.YtbjlaloofpdbfaaAgF
namespace Go.Proofs.Ytbjlaloofpdbfaa
open Go.RowKit Go.PlainAid
set_option linter.unusedVariables false
set_option linter.unusedSimpArgs false
section
variable {a : PA} {s : PV} {w w' : World}
theorem PN.aq (h : PN a s w) : AQ a.S0 a.pb a.hb a.mh a.mw a.B a.rb a.me a.rep a.per (KNof a.rep s.KL) s.WL s.KL s.WL (s.z.box a s.mark) (a.own s) w (s.z.ents a.S0) w :=
  ⟨h.p, rfl, rfl, h.t, ⟨s.kl, s.wl, h.r, h.ra, fun k hk => Or.inl (Or.inr (Or.inr (Or.inr (Or.inr (Or.inl hk)))))⟩, h.h, Chg.refl _ _, ⟨Or.inr (Or.inr (Or.inl rfl)), Or.inr (Or.inr (Or.inr (Or.inl rfl)))⟩, ⟨h.lo.1, h.lo.2.1, h.lo.2.2.1, h.lo.2.2.2.1⟩, h.low, Nat.le_refl _⟩
theorem PN.ofAq (h : PN a s w) {KL : List (List UInt8)} {WL : List ((Int × Int) × OpA)} (hA : AQ a.S0 a.pb a.hb a.mh a.mw a.B a.rb a.me a.rep a.per (KNof a.rep KL) WL KL WL (s.z.box a s.mark) (a.own s) w (s.z.ents a.S0) w') :
    ∃ kl wl, PN a ⟨kl, wl, KL, WL, s.mark, s.z⟩ w' ∧ PStp a s ⟨kl, wl, KL, WL, s.mark, s.z⟩ w w' := by
  obtain ⟨kl, wl, hr, hz, hn⟩ := hA.r
  refine ⟨kl, wl, ⟨hA.p, hA.t, hr, hA.h, hz, h.f, h.lo, Nat.le_trans h.low hA.chg.size⟩, hA.chg, fun k hk => ?_⟩
  rcases hk with e | e | e | e | e | e
  · exact Or.inl (Or.inl e)
  · exact Or.inl (Or.inr (Or.inl e))
  · exact Or.inl (Or.inr (Or.inr (Or.inl e)))
  · exact Or.inl (Or.inr (Or.inr (Or.inr (Or.inl e))))
  · exact hn k e
  · exact Or.inl (Or.inr (Or.inr (Or.inr (Or.inr (Or.inr e)))))
end
/-- How much there is behind q calls. -/
structure PBd (s : PV) (q : Nat) : Prop where
  kl : s.KL.length ≤ q
  wl : s.WL.length ≤ q
  nm : ∀ x ∈ s.KL, x.length ≤ 16
  nd : s.KL.Nodup
  wd : (s.WL.map (·.1)).Nodup
  mrk : 0 ≤ s.mark ∧ s.mark ≤ q
  lt : s.z.lt.length ≤ q
  lc : s.z.lc.length ≤ q
theorem nameB_len {n : List UInt8} (h : nameB n = true) : n.length ≤ 16 := by
  unfold nameB at h
  simp at h
  exact h.1.2
theorem PBd.mono {s : PV} {q : Nat} (h : PBd s q) : PBd s (q + 1) := ⟨Nat.le_succ_of_le h.kl, Nat.le_succ_of_le h.wl, h.nm, h.nd, h.wd, ⟨h.mrk.1, by have := h.mrk.2; omega⟩, Nat.le_succ_of_le h.lt, Nat.le_succ_of_le h.lc⟩
theorem PBd.putK {s : PV} {q : Nat} (h : PBd s q) (kl wl : Value) {n : List UInt8} (hn : nameB n = true) (hm : ¬ n ∈ s.KL) : PBd ⟨kl, wl, s.KL ++ [n], s.WL, s.mark, s.z⟩ (q + 1) := by
  refine ⟨by simp; exact h.kl, Nat.le_succ_of_le h.wl, fun x hx => ?_, ?_, h.wd, ⟨h.mrk.1, by have := h.mrk.2; show s.mark ≤ _; omega⟩, Nat.le_succ_of_le h.lt, Nat.le_succ_of_le h.lc⟩
  · rcases List.mem_append.1 hx with hx | hx
    · exact h.nm x hx
    · simp at hx; subst hx; exact nameB_len hn
  · rw [List.nodup_append]
    exact ⟨h.nd, by simp, fun x hx y hy e => by simp at hy; subst hy; subst e; exact hm hx⟩
theorem PBd.make {s : PV} {q : Nat} (h : PBd s q) (kl wl : Value) (me rep per : Int) (n : List UInt8) : PBd ⟨kl, wl, rmn me rep per s.KL n, s.WL, s.mark, s.z⟩ (q + 1) := by
  unfold rmn
  split
  · rename_i hc
    unfold rmc at hc
    split at hc
    · cases hc
    · rename_i h1
      split at hc
      · cases hc
      · split at hc
        · cases hc
        · rename_i h2
          exact h.putK kl wl (by simpa using h1) h2
  · exact ⟨h.mono.kl, h.mono.wl, h.nm, h.nd, h.wd, h.mono.mrk, h.mono.lt, h.mono.lc⟩
theorem PBd.learn {s : PV} {q : Nat} (h : PBd s q) (kl wl : Value) (me rep per : Int) (n : List UInt8) : PBd ⟨kl, wl, rln me rep per s.KL n, s.WL, s.mark, s.z⟩ (q + 1) := by
  unfold rln
  split
  · rename_i hc
    unfold rlb at hc
    simp at hc
    exact h.putK kl wl hc.1.1.1 hc.1.1.2
  · exact ⟨h.mono.kl, h.mono.wl, h.nm, h.nd, h.wd, h.mono.mrk, h.mono.lt, h.mono.lc⟩
theorem PBd.ask {s : PV} {q : Nat} (h : PBd s q) (kl wl : Value) (c : Int × Int) (o : OpA) : PBd ⟨kl, wl, s.KL, askNext s.WL c o, s.mark, s.z⟩ (q + 1) := by
  unfold askNext
  split
  · rename_i hc
    have hl : (look c s.WL).isSome = false := by
      unfold askCode at hc
      split at hc
      · cases hc
      · split at hc
        · cases hc
        · rename_i h2; simpa using h2
    have hn := not_waits hl
    refine ⟨h.mono.kl, by simp; exact h.wl, h.nm, h.nd, ?_, h.mono.mrk, h.mono.lt, h.mono.lc⟩
    rw [List.map_append, List.nodup_append]
    refine ⟨h.wd, by simp, fun x hx y hy e => ?_⟩
    simp at hy
    subst hy
    obtain ⟨p, hp, rfl⟩ := List.mem_map.1 hx
    exact hn p hp e.symm
  · exact ⟨h.mono.kl, h.mono.wl, h.nm, h.nd, h.wd, h.mono.mrk, h.mono.lt, h.mono.lc⟩
theorem PBd.told {s : PV} {q : Nat} (h : PBd s q) (kl wl : Value) (c : Int × Int) : PBd ⟨kl, wl, s.KL, rmK c s.WL, s.mark, s.z⟩ (q + 1) := by
  have hs : (rmK c s.WL).Sublist s.WL := List.eraseP_sublist
  exact ⟨h.mono.kl, Nat.le_trans hs.length_le h.mono.wl, h.nm, h.nd, (hs.map _).nodup h.wd, h.mono.mrk, h.mono.lt, h.mono.lc⟩
def PPost (a : PA) (s : PV) (q : Nat) (w w' : World) : Prop := ∃ s', PN a s' w' ∧ PStp a s s' w w' ∧ PBd s' (q + 1)
theorem all_gen (a : PA) (s : PV) (q : Nat) (w : World) (h : PN a s w) (hb : PBd s q) (hq : q ≤ 900) : Calls Try.prog 59 #[.pointer (some ⟨a.pb, 0, none⟩)] w fun e w' => e = .returned (.bool true) ∧ PPost a s q w w' := by
  have h1 := hb.kl
  have h2 := hb.wl
  have h3 := hb.lt
  have h4 := hb.mrk
  have key : ∀ (e : Ending) (w' : World), (e = .returned (.bool true) ∧ ∃ z', PN a { s with mark := s.mark + 1, z := z' } w' ∧ PStp a s { s with mark := s.mark + 1, z := z' } w w' ∧ z'.lt.length ≤ s.z.lt.length + 1 ∧ z'.lc.length ≤ s.z.lc.length + 1) → (e = .returned (.bool true) ∧ PPost a s q w w') := fun e w' ⟨he, z', p1, p2, p3, p4⟩ =>
    ⟨he, _, p1, p2, ⟨hb.mono.kl, hb.mono.wl, hb.nm, hb.nd, hb.wd, ⟨by show 0 ≤ s.mark + 1; omega, by show s.mark + 1 ≤ _; omega⟩, Nat.le_trans p3 (by have := hb.lt; omega), Nat.le_trans p4 (by have := hb.lc; omega)⟩⟩
  by_cases hm : (s.mark + 1) % 3 = 0
  · exact Calls.mono (all_full a s w h (by omega) (by omega) hb.nd (by omega) (by omega) hm) (fun e w' hx => key e w' hx)
  · exact Calls.mono (all_left a s w h (by omega) (by omega) hb.nd (by omega) (by omega) hm) (fun e w' hx => key e w' hx)
theorem asked_gen (a : PA) (s : PV) (q : Nat) (w : World) (h : PN a s w) (hb : PBd s q) (hq : q ≤ 900) : Calls Try.prog 60 #[.pointer (some ⟨a.pb, 0, none⟩)] w fun e w' => e = .returned (.bool true) ∧ PPost a s q w w' := by
  have h1 := hb.kl
  have h2 := hb.wl
  have h3 := hb.lc
  have h4 := hb.mrk
  have key : ∀ (e : Ending) (w' : World), (e = .returned (.bool true) ∧ ∃ z', PN a { s with mark := s.mark + 1, z := z' } w' ∧ PStp a s { s with mark := s.mark + 1, z := z' } w w' ∧ z'.lt.length ≤ s.z.lt.length + 1 ∧ z'.lc.length ≤ s.z.lc.length + 1) → (e = .returned (.bool true) ∧ PPost a s q w w') := fun e w' ⟨he, z', p1, p2, p3, p4⟩ =>
    ⟨he, _, p1, p2, ⟨hb.mono.kl, hb.mono.wl, hb.nm, hb.nd, hb.wd, ⟨by show 0 ≤ s.mark + 1; omega, by show s.mark + 1 ≤ _; omega⟩, Nat.le_trans p3 (by have := hb.lt; omega), Nat.le_trans p4 (by have := hb.lc; omega)⟩⟩
  by_cases hm : (s.mark + 1) % 3 = 0
  · exact Calls.mono (asked_full a s w h (by omega) (by omega) hb.wd (by omega) (by omega) hm) (fun e w' hx => key e w' hx)
  · exact Calls.mono (asked_left a s w h (by omega) (by omega) hb.wd (by omega) (by omega) hm) (fun e w' hx => key e w' hx)
theorem PPost.of {a : PA} {s : PV} {q : Nat} {w X w' : World} (hb : Below w.heap.size w X) (h : PPost a s q X w') : PPost a s q w w' := by
  obtain ⟨s', h1, h2, h3⟩ := h
  exact ⟨s', h1, (PStp.ofBelow hb).trans h2, h3⟩
set_option maxRecDepth 100000 in
set_option maxHeartbeats 1600000 in
theorem qA (a : PA) (s : PV) (q : Nat) (n : List UInt8) (c : Int × Int) (o : OpA) (w : World) (h : PN a s w) (hb : PBd s q) (hq : q ≤ 900) :
    Calls Try.prog 43 #[.pointer (some ⟨a.pb, 0, none⟩), .agg #[.int .i64 6, .string ⟨n.toArray⟩, .int .i64 c.1, .int .i64 c.2, .int .i64 o.k, .string ⟨o.n.toArray⟩, .int .i64 o.a, .int .i64 o.b]] w fun e w' => e = .returned (.bool true) ∧ PPost a s q w w' := by
  obtain ⟨X, hX⟩ : ∃ X, X = w.alloc (.cells #[.int .i64 6, .string ⟨n.toArray⟩, .int .i64 c.1, .int .i64 c.2, .int .i64 o.k, .string ⟨o.n.toArray⟩, .int .i64 o.a, .int .i64 o.b] 41) := ⟨_, rfl⟩
  have hbX : Below w.heap.size w X := by rw [hX]; exact (Below.refl _ _).alloc (Nat.le_refl _) _
  obtain ⟨bx, hbx⟩ : ∃ bx, bx = w.heap.size := ⟨_, rfl⟩
  have HBXX : Hid (Blk X bx #[.int .i64 6, .string ⟨n.toArray⟩, .int .i64 c.1, .int .i64 c.2, .int .i64 o.k, .string ⟨o.n.toArray⟩, .int .i64 o.a, .int .i64 o.b] 41) := show Blk X bx #[.int .i64 6, .string ⟨n.toArray⟩, .int .i64 c.1, .int .i64 c.2, .int .i64 o.k, .string ⟨o.n.toArray⟩, .int .i64 o.a, .int .i64 o.b] 41 from by rw [hX, hbx]; exact heap_alloc_new w _
  have b0 : X.cell? ⟨bx, 0, none⟩ = some (.int .i64 6) := HBXX.out.cell 0
  have HBX : Hid (Below w.heap.size w X) := hbX
  have HA : Hid (Calls Try.prog 59 #[.pointer (some ⟨a.pb, 0, none⟩)] X fun e w' => e = .returned (.bool true) ∧ PPost a s q X w') := all_gen a s q X (h.more hbX) hb hq
  clear h hb hbX
  go_enter Try.func43, Try.ntmps43
  go_upto_region 18 with fail
  rw [← hX, ← hbx]
  clear hX hbx
  go_wp2_with fail
  refine Calls.mono HA.out ?_
  rintro e w2 ⟨rfl, hf⟩
  have HF : Hid (PPost a s q w w2) := hf.of HBX.out
  clear hf HA b0
  go_wp2_with fail
  go_ret
  exact ⟨rfl, HF.out⟩
set_option maxRecDepth 100000 in
set_option maxHeartbeats 1600000 in
theorem qQ (a : PA) (s : PV) (q : Nat) (n : List UInt8) (c : Int × Int) (o : OpA) (w : World) (h : PN a s w) (hb : PBd s q) (hq : q ≤ 900) :
    Calls Try.prog 43 #[.pointer (some ⟨a.pb, 0, none⟩), .agg #[.int .i64 7, .string ⟨n.toArray⟩, .int .i64 c.1, .int .i64 c.2, .int .i64 o.k, .string ⟨o.n.toArray⟩, .int .i64 o.a, .int .i64 o.b]] w fun e w' => e = .returned (.bool true) ∧ PPost a s q w w' := by
  obtain ⟨X, hX⟩ : ∃ X, X = w.alloc (.cells #[.int .i64 7, .string ⟨n.toArray⟩, .int .i64 c.1, .int .i64 c.2, .int .i64 o.k, .string ⟨o.n.toArray⟩, .int .i64 o.a, .int .i64 o.b] 41) := ⟨_, rfl⟩
  have hbX : Below w.heap.size w X := by rw [hX]; exact (Below.refl _ _).alloc (Nat.le_refl _) _
  obtain ⟨bx, hbx⟩ : ∃ bx, bx = w.heap.size := ⟨_, rfl⟩
  have HBXX : Hid (Blk X bx #[.int .i64 7, .string ⟨n.toArray⟩, .int .i64 c.1, .int .i64 c.2, .int .i64 o.k, .string ⟨o.n.toArray⟩, .int .i64 o.a, .int .i64 o.b] 41) := show Blk X bx #[.int .i64 7, .string ⟨n.toArray⟩, .int .i64 c.1, .int .i64 c.2, .int .i64 o.k, .string ⟨o.n.toArray⟩, .int .i64 o.a, .int .i64 o.b] 41 from by rw [hX, hbx]; exact heap_alloc_new w _
  have b0 : X.cell? ⟨bx, 0, none⟩ = some (.int .i64 7) := HBXX.out.cell 0
  have HBX : Hid (Below w.heap.size w X) := hbX
  have HA : Hid (Calls Try.prog 60 #[.pointer (some ⟨a.pb, 0, none⟩)] X fun e w' => e = .returned (.bool true) ∧ PPost a s q X w') := asked_gen a s q X (h.more hbX) hb hq
  clear h hb hbX
  go_enter Try.func43, Try.ntmps43
  go_upto_region 20 with fail
  rw [← hX, ← hbx]
  clear hX hbx
  go_wp2_with fail
  refine Calls.mono HA.out ?_
  rintro e w2 ⟨rfl, hf⟩
  have HF : Hid (PPost a s q w w2) := hf.of HBX.out
  clear hf HA b0
  go_wp2_with fail
  go_ret
  exact ⟨rfl, HF.out⟩
set_option maxRecDepth 100000 in
set_option maxHeartbeats 1600000 in
theorem qO (a : PA) (s : PV) (q : Nat) (n : List UInt8) (c : Int × Int) (o : OpA) (w : World) (h : PN a s w) (hb : PBd s q) (hq : q ≤ 900) (k : Int) (hk : ¬ (1 ≤ k ∧ k ≤ 7)) :
    Calls Try.prog 43 #[.pointer (some ⟨a.pb, 0, none⟩), .agg #[.int .i64 k, .string ⟨n.toArray⟩, .int .i64 c.1, .int .i64 c.2, .int .i64 o.k, .string ⟨o.n.toArray⟩, .int .i64 o.a, .int .i64 o.b]] w fun e w' => e = .returned (.bool true) ∧ PPost a s q w w' := by
  obtain ⟨X, hX⟩ : ∃ X, X = w.alloc (.cells #[.int .i64 k, .string ⟨n.toArray⟩, .int .i64 c.1, .int .i64 c.2, .int .i64 o.k, .string ⟨o.n.toArray⟩, .int .i64 o.a, .int .i64 o.b] 41) := ⟨_, rfl⟩
  have hbX : Below w.heap.size w X := by rw [hX]; exact (Below.refl _ _).alloc (Nat.le_refl _) _
  obtain ⟨bx, hbx⟩ : ∃ bx, bx = w.heap.size := ⟨_, rfl⟩
  have HBXX : Hid (Blk X bx #[.int .i64 k, .string ⟨n.toArray⟩, .int .i64 c.1, .int .i64 c.2, .int .i64 o.k, .string ⟨o.n.toArray⟩, .int .i64 o.a, .int .i64 o.b] 41) := show Blk X bx #[.int .i64 k, .string ⟨n.toArray⟩, .int .i64 c.1, .int .i64 c.2, .int .i64 o.k, .string ⟨o.n.toArray⟩, .int .i64 o.a, .int .i64 o.b] 41 from by rw [hX, hbx]; exact heap_alloc_new w _
  have b0 : X.cell? ⟨bx, 0, none⟩ = some (.int .i64 k) := HBXX.out.cell 0
  have HBX : Hid (Below w.heap.size w X) := hbX
  have HF : Hid (PPost a s q w X) := ⟨s, h.more hbX, PStp.ofBelow hbX, hb.mono⟩
  have k1 : (k == 1) = false := by simp; omega
  have k2 : (k == 2) = false := by simp; omega
  have k3 : (k == 3) = false := by simp; omega
  have k4 : (k == 4) = false := by simp; omega
  have k5 : (k == 5) = false := by simp; omega
  have k6 : (k == 6) = false := by simp; omega
  have k7 : (k == 7) = false := by simp; omega
  clear h hb hbX hk
  go_enter Try.func43, Try.ntmps43
  go_upto_region 1 with fail
  rw [← hX, ← hbx]
  clear hX hbx
  go_wp2_with fail
  go_ret
  exact ⟨rfl, HF.out⟩
/-- Any call. -/
theorem call_gen (a : PA) (s : PV) (q : Nat) (k : Int) (n : List UInt8) (c : Int × Int) (o : OpA) (w : World) (h : PN a s w) (hb : PBd s q) (hq : q ≤ 900) (hn : n.length ≤ 140737488355328) (hon : o.n.length ≤ 140737488355328) (hrep : -9223372036854775808 ≤ a.rep ∧ a.rep ≤ 9223372036854775807) :
    Calls Try.prog 43 #[.pointer (some ⟨a.pb, 0, none⟩), .agg #[.int .i64 k, .string ⟨n.toArray⟩, .int .i64 c.1, .int .i64 c.2, .int .i64 o.k, .string ⟨o.n.toArray⟩, .int .i64 o.a, .int .i64 o.b]] w fun e w' => e = .returned (.bool true) ∧ PPost a s q w w' := by
  have h1 := hb.kl
  have h2 := hb.wl
  have hnl : ∀ x ∈ s.KL, x.length ≤ 140737488355328 := fun x hx => Nat.le_trans (hb.nm x hx) (by decide)
  by_cases k1 : k = 1
  · subst k1
    refine Calls.mono (qcM (KN := []) n c o w h.aq (by omega) hnl hn hrep) ?_
    rintro e w' ⟨rfl, hA, _⟩
    obtain ⟨kl, wl, p1, p2⟩ := h.ofAq hA
    exact ⟨rfl, _, p1, p2, hb.make kl wl _ _ _ n⟩
  by_cases k2 : k = 2
  · subst k2
    refine Calls.mono (qcL (KN := []) n c o w h.aq (by omega) hnl hn hrep) ?_
    rintro e w' ⟨rfl, hA, _⟩
    obtain ⟨kl, wl, p1, p2⟩ := h.ofAq hA
    exact ⟨rfl, _, p1, p2, hb.learn kl wl _ _ _ n⟩
  by_cases k3 : k = 3
  · subst k3
    refine Calls.mono (qcS n c o w h.aq (by omega) (by omega) hon) ?_
    rintro e w' ⟨rfl, hA, _⟩
    obtain ⟨kl, wl, p1, p2⟩ := h.ofAq hA
    exact ⟨rfl, _, p1, p2, hb.ask kl wl c o⟩
  by_cases k4 : k = 4
  · subst k4
    refine Calls.mono (qcT n c o w h.aq (by omega) (by omega)) ?_
    rintro e w' ⟨rfl, hA, _⟩
    obtain ⟨kl, wl, p1, p2⟩ := h.ofAq hA
    exact ⟨rfl, _, p1, p2, hb.told kl wl c⟩
  by_cases k5 : k = 5
  · subst k5
    refine Calls.mono (qcK n c o w h.aq (by omega) (by omega)) ?_
    rintro e w' ⟨rfl, hA, _⟩
    obtain ⟨kl, wl, p1, p2⟩ := h.ofAq hA
    exact ⟨rfl, _, p1, p2, ⟨hb.mono.kl, hb.mono.wl, hb.nm, hb.nd, hb.wd, hb.mono.mrk, hb.mono.lt, hb.mono.lc⟩⟩
  by_cases k6 : k = 6
  · subst k6
    exact qA a s q n c o w h hb hq
  by_cases k7 : k = 7
  · subst k7
    exact qQ a s q n c o w h hb hq
  exact qO a s q n c o w h hb hq k (by omega)
theorem stands_pn (a : PA) (s : PV) (w : World) (h : PN a s w) : Calls Try.prog 29 #[.pointer (some ⟨a.pb, 0, none⟩)] w fun e w' => e = .returned (.bool true) ∧ ∃ q, w' = w.drewN q :=
  stands_gen w h.h h.f (h.p.cell 2) (h.p.cell 3) (h.p.cell 4) (h.p.cell 6)
set_option maxRecDepth 100000 in
theorem plays_gen (a : PA) (s : PV) (q : Nat) (k : Int) (n : List UInt8) (c : Int × Int) (o : OpA) (w : World) (h : PN a s w) (hb : PBd s q) (hq : q ≤ 900) (hn : n.length ≤ 140737488355328) (hon : o.n.length ≤ 140737488355328) (hrep : -9223372036854775808 ≤ a.rep ∧ a.rep ≤ 9223372036854775807) :
    Calls Try.prog 28 #[.pointer (some ⟨a.pb, 0, none⟩), .agg #[.int .i64 k, .string ⟨n.toArray⟩, .int .i64 c.1, .int .i64 c.2, .int .i64 o.k, .string ⟨o.n.toArray⟩, .int .i64 o.a, .int .i64 o.b]] w fun e w' => e = .returned (.bool true) ∧ PPost a s q w w' := by
  obtain ⟨X, hX⟩ : ∃ X, X = w.alloc (.cells #[.int .i64 k, .string ⟨n.toArray⟩, .int .i64 c.1, .int .i64 c.2, .int .i64 o.k, .string ⟨o.n.toArray⟩, .int .i64 o.a, .int .i64 o.b] 41) := ⟨_, rfl⟩
  have hbX : Below w.heap.size w X := by rw [hX]; exact (Below.refl _ _).alloc (Nat.le_refl _) _
  obtain ⟨bx, hbx⟩ : ∃ bx, bx = w.heap.size := ⟨_, rfl⟩
  have HB : Blk X bx #[.int .i64 k, .string ⟨n.toArray⟩, .int .i64 c.1, .int .i64 c.2, .int .i64 o.k, .string ⟨o.n.toArray⟩, .int .i64 o.a, .int .i64 o.b] 41 := by rw [hX, hbx]; exact heap_alloc_new w _
  have HC : Hid (Calls Try.prog 43 #[.pointer (some ⟨a.pb, 0, none⟩), .agg #[.int .i64 k, .string ⟨n.toArray⟩, .int .i64 c.1, .int .i64 c.2, .int .i64 o.k, .string ⟨o.n.toArray⟩, .int .i64 o.a, .int .i64 o.b]] X fun e w' => e = .returned (.bool true) ∧ PPost a s q X w') := call_gen a s q k n c o X (h.more hbX) hb hq hn hon hrep
  have HBX : Hid (Below w.heap.size w X) := hbX
  have b0 : X.cell? ⟨bx, 0, none⟩ = some (.int .i64 k) := HB.cell 0
  have b1 : X.cell? ⟨bx, 1, none⟩ = some (.string ⟨n.toArray⟩) := HB.cell 1
  have b2 : X.cell? ⟨bx, 2, none⟩ = some (.int .i64 c.1) := HB.cell 2
  have b3 : X.cell? ⟨bx, 3, none⟩ = some (.int .i64 c.2) := HB.cell 3
  have b4 : X.cell? ⟨bx, 4, none⟩ = some (.int .i64 o.k) := HB.cell 4
  have b5 : X.cell? ⟨bx, 5, none⟩ = some (.string ⟨o.n.toArray⟩) := HB.cell 5
  have b6 : X.cell? ⟨bx, 6, none⟩ = some (.int .i64 o.a) := HB.cell 6
  have b7 : X.cell? ⟨bx, 7, none⟩ = some (.int .i64 o.b) := HB.cell 7
  clear hbX HB h hb
  go_enter Try.func28, Try.ntmps28
  go_upto_region 1 with fail
  rw [← hX, ← hbx]
  clear hX hbx
  go_wp2_with fail
  refine Calls.mono HC.out ?_
  rintro e w2 ⟨rfl, s', hP, hS, hB⟩
  have HP : Hid _ := hP
  have HS : Hid _ := hS
  have HBD : Hid _ := hB
  clear hP hS hB HC b0 b1 b2 b3 b4 b5 b6 b7
  go_wp2_with fail
  refine Calls.mono (stands_pn a s' w2 HP.out) ?_
  rintro e w3 ⟨rfl, qq, hw3⟩
  have HF : Hid (PPost a s q w w3) := show PPost a s q w w3 from by
    have hd : Below w2.heap.size w2 w3 := by rw [hw3]; exact below_drewN (Below.refl _ _) qq
    exact ⟨s', HP.out.more hd, (PStp.ofBelow HBX.out).trans (HS.out.trans (PStp.ofBelow hd)), HBD.out⟩
  clear hw3
  go_wp2_with fail
  go_ret
  exact ⟨rfl, HF.out⟩
end Go.Proofs.Ytbjlaloofpdbfaa
