import Derived.Test.YtaiknlnjahjeiaaMp
import Derived.Deep.Cut
import Derived.BigQuiet
namespace Go.Proofs.Ytaiknlnjahjeiaa
open Go.RowKit Go.PlainAid Go.MapKept
set_option linter.unusedVariables false
set_option linter.unusedSimpArgs false
theorem putM_mem {K V : Type} [DecidableEq K] {k : K} {v : V} {x : K × V} : ∀ {L : List (K × V)}, x ∈ Gm.putM k v L → x = (k, v) ∨ x ∈ L ∧ x.1 ≠ k ∨ (x ∈ L ∧ x.1 = k ∧ ¬ L.Pairwise (fun p q => p.1 ≠ q.1))
  | [], h => by simp [Gm.putM] at h; exact Or.inl h
  | y :: t, h => by
    by_cases e : k = y.1
    · simp only [Gm.putM, if_pos e, List.mem_cons] at h
      rcases h with h | h
      · exact Or.inl h
      · by_cases e2 : x.1 = k
        · refine Or.inr (Or.inr ⟨List.mem_cons_of_mem _ h, e2, fun hp => ?_⟩)
          exact (List.pairwise_cons.1 hp).1 x h (by rw [e2, e])
        · exact Or.inr (Or.inl ⟨List.mem_cons_of_mem _ h, e2⟩)
    · simp only [Gm.putM, if_neg e, List.mem_cons] at h
      rcases h with h | h
      · subst h
        exact Or.inr (Or.inl ⟨List.mem_cons_self .., fun e2 => e e2.symm⟩)
      · rcases putM_mem h with h | ⟨h, h2⟩ | ⟨h, h2, h3⟩
        · exact Or.inl h
        · exact Or.inr (Or.inl ⟨List.mem_cons_of_mem _ h, h2⟩)
        · exact Or.inr (Or.inr ⟨List.mem_cons_of_mem _ h, h2, fun hp => h3 (List.pairwise_cons.1 hp).2⟩)
theorem putM_in {K V : Type} [DecidableEq K] {k : K} {v : V} {x : K × V} {L : List (K × V)} (hk : L.Pairwise (fun p q => p.1 ≠ q.1)) (h : x ∈ Gm.putM k v L) : x = (k, v) ∨ x ∈ L ∧ x.1 ≠ k := by
  rcases putM_mem h with h | h | h
  · exact Or.inl h
  · exact Or.inr h
  · exact absurd hk h.2.2
theorem putM_kd {K V : Type} [DecidableEq K] {k : K} {v : V} : ∀ {L : List (K × V)}, L.Pairwise (fun p q => p.1 ≠ q.1) → (Gm.putM k v L).Pairwise (fun p q => p.1 ≠ q.1)
  | [], _ => by simp [Gm.putM]
  | y :: t, h => by
    have h1 := List.pairwise_cons.1 h
    by_cases e : k = y.1
    · simp only [Gm.putM, if_pos e]
      exact List.pairwise_cons.2 ⟨fun q hq => by rw [show ((k, v) : K × V).1 = y.1 from e]; exact h1.1 q hq, h1.2⟩
    · simp only [Gm.putM, if_neg e]
      refine List.pairwise_cons.2 ⟨fun q hq => ?_, putM_kd h1.2⟩
      rcases putM_in h1.2 hq with rfl | ⟨h2, _⟩
      · exact fun e2 => e e2.symm
      · exact h1.1 q h2
theorem putM_dj {n : List UInt8} {c : Ct} : ∀ {L : List (List UInt8 × Ct)}, L.Pairwise (fun p q => p.1 ≠ q.1) → L.Pairwise (fun p q => p.2.hb ≠ q.2.hb) → (∀ p ∈ L, p.1 ≠ n → p.2.hb ≠ c.hb) → (Gm.putM n c L).Pairwise (fun p q => p.2.hb ≠ q.2.hb)
  | [], _, _, _ => by simp [Gm.putM]
  | y :: t, hk, h, hn => by
    have h1 := List.pairwise_cons.1 h
    have k1 := List.pairwise_cons.1 hk
    by_cases e : n = y.1
    · simp only [Gm.putM, if_pos e]
      exact List.pairwise_cons.2 ⟨fun q hq e2 => hn q (List.mem_cons_of_mem _ hq) (fun e3 => k1.1 q hq (by rw [e3, e])) e2.symm, h1.2⟩
    · simp only [Gm.putM, if_neg e]
      refine List.pairwise_cons.2 ⟨fun q hq => ?_, putM_dj k1.2 h1.2 (fun p hp => hn p (List.mem_cons_of_mem _ hp))⟩
      rcases putM_in k1.2 hq with rfl | ⟨h2, _⟩
      · exact hn y (List.mem_cons_self ..) (fun e2 => e e2.symm)
      · exact h1.1 q h2
/-- Where a map's blocks lie: below L0. -/
def AM.lo (ab mb L0 : Nat) (L : List (List UInt8 × Ct)) : Prop := ab < L0 ∧ mb < L0 ∧ ∀ p ∈ L, ∀ hb, p.2.hb = some hb → hb < L0
theorem AM.lows {ab mb : Nat} {L : List (List UInt8 × Ct)} {w : World} (h : AM ab mb L w) : AM.lo ab mb w.heap.size L := ⟨h.box.lt, h.map.lt, fun p hp hb e => by
  obtain ⟨_, _, x, c, d, _⟩ := h.ct p hp
  rw [c] at e
  cases e
  exact d.lt⟩
/-- The counter n is put, its map of holds having changed alone. -/
theorem AM.put {ab mb L0 hb' : Nat} {L : List (List UInt8 × Ct)} {w V V2 : World} {n : List UInt8} {lim val held : Int} {H : List (Int × Int)} {hb0 : Option Nat} (h : AM ab mb L w) (hlo : AM.lo ab mb L0 L) (hL : L0 ≤ w.heap.size) (hok : (Ct.mk n lim val held (some hb') H).Ok)
    (hc : Chg (fun k => hb0 = some k ∨ L0 ≤ k) w V) (hI : HI V hb' H) (hh : hb0 = some hb' ∨ hb0 = none ∧ L0 ≤ hb') (h0 : ∀ k, hb0 = some k → ∃ c, (n, c) ∈ L ∧ c.hb = some k)
    (hm : Gm.HMap MC V2 mb (Gm.putM n ⟨n, lim, val, held, some hb', H⟩ L)) (hc2 : Chg (fun k => k = mb) V V2) : AM ab mb (Gm.putM n ⟨n, lim, val, held, some hb', H⟩ L) V2 := by
  have hmbhb : ∀ k, hb0 = some k → k ≠ mb := fun k hk => by
    obtain ⟨c, hc, hcb⟩ := h0 k hk
    obtain ⟨_, _, x, c1, _, e1⟩ := h.ct _ hc
    have : x = k := by simp only at c1; rw [hcb] at c1; exact (Option.some.inj c1).symm
    exact this ▸ e1
  have hne : hb' ≠ mb := by
    rcases hh with hh | ⟨_, hh⟩
    · exact hmbhb hb' hh
    · have := hlo.2.1; omega
  have hoth : ∀ p ∈ L, p.1 ≠ n → ∀ x, p.2.hb = some x → hb0 ≠ some x := fun p hp hpn x hx e => by
    obtain ⟨c, hcm, hcb⟩ := h0 x e
    have key : ∀ {L : List (List UInt8 × Ct)}, L.Pairwise (fun p q => p.2.hb ≠ q.2.hb) → p ∈ L → (n, c) ∈ L → p.2.hb = c.hb → p = (n, c) := fun {L} => by
      induction L with
      | nil => intro _ h; cases h
      | cons y t ih =>
        intro hd h1 h2 e
        have hd1 := List.pairwise_cons.1 hd
        rcases List.mem_cons.1 h1 with r1 | r1
        · rcases List.mem_cons.1 h2 with r2 | r2
          · rw [r1, r2]
          · exact absurd (by rw [← r1]; exact e) (hd1.1 _ r2)
        · rcases List.mem_cons.1 h2 with r2 | r2
          · exact absurd (by rw [← r2]; exact e.symm) (hd1.1 _ r1)
          · exact ih hd1.2 r1 r2 e
    have := key h.dj hp hcm (by rw [hx, hcb])
    exact hpn (by rw [this])
  refine ⟨hc2.blk (hc.blk h.box ?_) (h.map.ne_b h.box), hm, fun p hp => ?_, putM_dj h.kd h.dj (fun p hp hpn e => ?_), putM_kd h.kd⟩
  · rintro (e | e)
    · obtain ⟨c, hcm, hcb⟩ := h0 _ e
      obtain ⟨_, _, x, c1, d1, _⟩ := h.ct _ hcm
      have : x = ab := by simp only at c1; rw [hcb] at c1; exact (Option.some.inj c1).symm
      exact d1.ne_b h.box this.symm
    · have := hlo.1; omega
  · rcases putM_in h.kd hp with rfl | ⟨hp, hpn⟩
    · exact ⟨rfl, hok, hb', rfl, hI.same (hc2.block _ hI.lt hne), hne⟩
    · obtain ⟨a, b, x, c1, d1, e1⟩ := h.ct p hp
      have hx := hlo.2.2 p hp x c1
      have d2 : HI V x p.2.H := d1.same (hc.block _ d1.lt (fun e => e.elim (hoth p hp hpn x c1) (fun e => by omega)))
      exact ⟨a, b, x, c1, d2.same (hc2.block _ d2.lt e1), e1⟩
  · obtain ⟨a, b, x, c1, d1, e1⟩ := h.ct p hp
    have hx := hlo.2.2 p hp x c1
    rw [c1] at e
    have e2 : x = hb' := Option.some.inj e
    rcases hh with hh | ⟨_, hh⟩
    · exact hoth p hp hpn x c1 (by rw [hh, e2])
    · omega
end Go.Proofs.Ytaiknlnjahjeiaa
namespace Go.Proofs.Ytaiknlnjahjeiaa
open Go.RowKit Go.PlainAid Go.MapKept
set_option linter.unusedVariables false
set_option linter.unusedSimpArgs false
def DoerAt (L0 U : Nat) (hb0 : Option Nat) (n : List UInt8) (lim val held : Int) (H : List (Int × Int)) (fv : Value) (w : World) : Prop :=
  ∃ (K : Nat) (cs : Array Value), fv = .func (.func K) #[] cs ∧ (∀ args w, (callFunc K args).run Try.prog w = .ok (.enter K args) w) ∧ ∀ W, Since L0 hb0 w W → Calls Try.prog K cs W (DoPost L0 U hb0 n lim val held H W)
theorem Doer.at {L0 : Nat} {hb0 : Option Nat} {n : List UInt8} {lim val held : Int} {H : List (Int × Int)} {fv : Value} {w w' : World} (h : Doer L0 hb0 n lim val held H fv w) (hb : Below w.heap.size w w') (h2 : ∀ k, hb0 = some k → k < w.heap.size) : DoerAt L0 w.heap.size hb0 n lim val held H fv w' := by
  obtain ⟨K, cs, e1, e2, e3⟩ := h
  exact ⟨K, cs, e1, e2, fun W hs => e3 W ⟨Nat.le_trans hb.size hs.size, fun k h3 h4 => (hs.new k h3 (Nat.lt_of_lt_of_le h4 hb.size)).trans (hb.block k h4), fun k hk => (hs.hb k hk).trans (hb.block k (h2 k hk))⟩⟩
set_option maxRecDepth 100000 in
set_option maxHeartbeats 1600000 in
theorem carry_no {ab : Nat} (R : Out) (fv : Value) (w : World) (hr : R.1.2 ≠ 0) :
    Calls Try.prog 23 #[.pointer (some ⟨ab, 0, none⟩), .agg #[.int .i64 R.1.1, .int .i64 R.1.2, fv]] w fun e w' => e = .returned (.tuple #[]) ∧ Below w.heap.size w w' := by
  have hrb : (R.1.2 == 0) = false := by simpa using hr
  have HG : Hid (Below w.heap.size w (w.alloc (.cells #[.int .i64 R.1.1, .int .i64 R.1.2, fv] 62))) := (Below.refl _ _).alloc (Nat.le_refl _) _
  clear hr
  go_enter Try.func23, Try.ntmps23
  go_wp2_with fail
  refine bodyPost_ret (results_none rfl _ _ _) rfl ?_
  exact ⟨rfl, HG.out⟩
set_option maxRecDepth 100000 in
set_option maxHeartbeats 3200000 in
theorem carry_yes {ab mb L0 U : Nat} {L : List (List UInt8 × Ct)} {hb0 : Option Nat} {n : List UInt8} {lim val held : Int} {H : List (Int × Int)} (ans : Int) (fv : Value) (w : World) (h : AM ab mb L w) (hlo : AM.lo ab mb L0 L) (hL : L0 ≤ w.heap.size) (hD : DoerAt L0 U hb0 n lim val held H fv w) (hok : ∀ hb', (Ct.mk n lim val held (some hb') H).Ok) (h0 : ∀ k, hb0 = some k → ∃ c, (n, c) ∈ L ∧ c.hb = some k) :
    Calls Try.prog 23 #[.pointer (some ⟨ab, 0, none⟩), .agg #[.int .i64 ans, .int .i64 0, fv]] w fun e w' => e = .returned (.tuple #[]) ∧ (∃ hb', AM ab mb (Gm.putM n ⟨n, lim, val, held, some hb', H⟩ L) w' ∧ (hb0 = some hb' ∨ w.heap.size ≤ hb')) ∧ Chg (fun k => k = mb ∨ hb0 = some k ∨ L0 ≤ k ∧ k < U) w w' := by
  obtain ⟨K, cs, rfl, hE, hD⟩ := hD
  obtain ⟨db, hdb⟩ : ∃ b, b = w.heap.size := ⟨_, rfl⟩
  obtain ⟨X, hX⟩ : ∃ X, X = w.alloc (.cells #[.int .i64 ans, .int .i64 0, .func (.func K) #[] cs] 62) := ⟨_, rfl⟩
  have hbX : Below w.heap.size w X := by rw [hX]; exact (Below.refl _ _).alloc (Nat.le_refl _) _
  have BD : Hid (Blk X db #[.int .i64 ans, .int .i64 0, .func (.func K) #[] cs] 62) := show Blk X db #[.int .i64 ans, .int .i64 0, .func (.func K) #[] cs] 62 from by rw [hX, hdb]; exact heap_alloc_new w _
  have HD : Hid (Calls Try.prog K cs X (DoPost L0 U hb0 n lim val held H X)) := hD X (Since.below hbX (Nat.le_refl _) (fun k hk => by
    obtain ⟨c, hc, hcb⟩ := h0 k hk
    exact Nat.lt_of_lt_of_le (hlo.2.2 _ hc k hcb) hL))
  have HBX : Hid (Below w.heap.size w X) := hbX
  have HAM : Hid (AM ab mb L X) := h.more hbX
  have HLO : Hid (AM.lo ab mb L0 L) := hlo
  have HLS : Hid (L0 ≤ w.heap.size) := hL
  have HOK : Hid (∀ hb', (Ct.mk n lim val held (some hb') H).Ok) := hok
  have HH0 : Hid (∀ k, hb0 = some k → ∃ c, (n, c) ∈ L ∧ c.hb = some k) := h0
  have d1 : X.cell? ⟨db, 1, none⟩ = some (.int .i64 0) := BD.out.cell 1
  have d2 : X.cell? ⟨db, 2, none⟩ = some (.func (.func K) #[] cs) := BD.out.cell 2
  clear h hlo hL hD hok h0 hbX
  go_enter Try.func23, Try.ntmps23
  go_upto_region 1 with fail
  rw [← hX, ← hdb]
  clear hX hdb
  go_wp2_with fail
  refine Calls.mono (by simpa using HD.out) ?_
  rintro e9 V ⟨hb2, rfl, hI, hh, hc⟩
  simp only [ctV, Ct.cs]
  obtain ⟨cb, hcb⟩ : ∃ b, b = V.heap.size := ⟨_, rfl⟩
  obtain ⟨Y, hY⟩ : ∃ Y, Y = V.alloc (.cells #[.string ⟨n.toArray⟩, .int .i64 lim, .int .i64 val, .int .i64 held, .map (some hb2)] 67) := ⟨_, rfl⟩
  have hbY : Below V.heap.size V Y := by rw [hY]; exact (Below.refl _ _).alloc (Nat.le_refl _) _
  have YCB : Hid (Blk Y cb #[.string ⟨n.toArray⟩, .int .i64 lim, .int .i64 val, .int .i64 held, .map (some hb2)] 67) := show Blk Y cb #[.string ⟨n.toArray⟩, .int .i64 lim, .int .i64 val, .int .i64 held, .map (some hb2)] 67 from by rw [hY, hcb]; exact heap_alloc_new V _
  have hcY0 : Chg (fun k => hb0 = some k ∨ L0 ≤ k ∧ k < U) X Y := hc.trans (Chg.ofBelow (fun _ => False) hbY) (fun _ _ e => e.elim)
  have hcY : Chg (fun k => hb0 = some k ∨ L0 ≤ k) X Y := hcY0.mono (fun k _ e => e.imp id (fun e => e.1))
  have hIY : HI Y hb2 H := hI.same (hbY.block _ hI.lt)
  have hLX : L0 ≤ X.heap.size := Nat.le_trans HLS.out HBX.out.size
  have hhY : hb0 = some hb2 ∨ hb0 = none ∧ L0 ≤ hb2 := hh.imp id (fun e => ⟨e.1, Nat.le_trans hLX e.2⟩)
  have hnab : ¬ (hb0 = some ab ∨ L0 ≤ ab) := by
    rintro (e | e)
    · obtain ⟨c, hcm, hcb⟩ := HH0.out _ e
      obtain ⟨_, _, x, c1, dd, _⟩ := HAM.out.ct _ hcm
      have : x = ab := by simp only at c1; rw [hcb] at c1; exact (Option.some.inj c1).symm
      exact dd.ne_b HAM.out.box this.symm
    · have := HLO.out.1; omega
  have hnmb : ¬ (hb0 = some mb ∨ L0 ≤ mb) := by
    rintro (e | e)
    · obtain ⟨c, hcm, hcb⟩ := HH0.out _ e
      obtain ⟨_, _, x, c1, _, dd⟩ := HAM.out.ct _ hcm
      have : x = mb := by simp only at c1; rw [hcb] at c1; exact (Option.some.inj c1).symm
      exact dd this
    · have := HLO.out.2.1; omega
  have YAB : Hid (Blk Y ab #[.map (some mb)] 59) := hcY.blk HAM.out.box hnab
  have hmY : Gm.HMap MC Y mb L := HAM.out.map.same (hcY.block _ HAM.out.map.lt hnmb)
  have hmD : Gm.HMap MC Y.drew mb L := hmY.same rfl
  obtain ⟨Y2, hrun, hm2, hc2, hs2⟩ := hmD.putM n (Ct.mk n lim val held (some hb2) H)
  have HRUN : Hid ((Instr.mapUpdate 57 (.map (some mb)) (.string ⟨n.toArray⟩) (.agg #[.string ⟨n.toArray⟩, .int .i64 lim, .int .i64 val, .int .i64 held, .map (some hb2)])).run Try.prog ({ Y with drawn := Y.drawn + 1 } : World) = .ok () Y2) := hrun
  have hcD : Chg (fun k => k = mb) Y Y2 := ⟨hc2.os, hc2.tape, hc2.output, hc2.size, hc2.block⟩
  have HF : Hid (AM ab mb (Gm.putM n ⟨n, lim, val, held, some hb2, H⟩ L) Y2) := HAM.out.put HLO.out hLX (HOK.out hb2) hcY hIY hhY HH0.out hm2 hcD
  have HHB : Hid (hb0 = some hb2 ∨ w.heap.size ≤ hb2) := show _ ∨ _ from hh.imp id (fun e => Nat.le_trans HBX.out.size e.2)
  have HCF : Hid (Chg (fun k => k = mb ∨ hb0 = some k ∨ L0 ≤ k ∧ k < U) w Y2) := ((Chg.ofBelow _ HBX.out).trans hcY0 (fun k _ e => Or.inr e)).trans hcD (fun k _ e => Or.inl e)
  go_upto_region 3 with fail
  rw [← hY, ← hcb]
  clear hY hcb hbY hcY hcY0 hIY hhY hnab hnmb hmY hmD hrun hm2 hc2 hs2 hcD hI hh hc hLX d1 d2 HD hE
  go_wp2_with fail
  skip
  try rw [show ∀ a : Act, a.put none undef = a from fun _ => rfl]
  refine wp_region_mix (fun wq => Blk wq ab #[.map (some mb)] 59 ∧ Blk wq cb #[.string ⟨n.toArray⟩, .int .i64 lim, .int .i64 val, .int .i64 held, .map (some hb2)] 67 ∧ wq = Y.drew) (fun i => i == 7) 7 (by kernel_rfl) rfl (by kernel_rfl) (by kernel_rfl) (by kernel_rfl) ?_
  refine withFrP (N := 18) rfl ?_
  intro f0 F0 hff
  have ee0 : f0 0 = Value.pointer (some ⟨ab, 0, none⟩) := hff 0
  have ee4 : f0 4 = Value.pointer (some ⟨cb, 0, none⟩) := hff 4
  clear hff
  have HCC : (fun wq => Blk wq ab #[.map (some mb)] 59 ∧ Blk wq cb #[.string ⟨n.toArray⟩, .int .i64 lim, .int .i64 val, .int .i64 held, .map (some hb2)] 67 ∧ wq = Y.drew) (({ Y with drawn := Y.drawn + 1 } : World)) := ⟨YAB.out, YCB.out, rfl⟩
  refine lyp F0 rfl HCC rfl (by omega) (wanted_none rfl) (v := Value.pointer (some ⟨ab, 0, none⟩)) (fun wr hwr => by simp only [execOp, (F0.eval 0 (by omega)).trans (show _ = Value.pointer (some ⟨ab, 0, none⟩) from by simp [upd, ee0, ee4])]; first | rfl | simp [go_sem]) fun F1 => ?_
  refine lyp F1 rfl HCC rfl (by omega) (wanted_none rfl) (v := Value.pointer (some ⟨ab, 0, none⟩)) (fun wr hwr => by simp only [execOp, (F1.eval 11 (by omega)).trans (show _ = Value.pointer (some ⟨ab, 0, none⟩) from by simp [upd, ee0, ee4])]; simp [go_sem]) fun F2 => ?_
  refine lyp F2 rfl HCC rfl (by omega) (wanted_none rfl) (v := Value.pointer (some ⟨ab, 0, none⟩)) (fun wr hwr => by simp only [execOp, (F2.eval 12 (by omega)).trans (show _ = Value.pointer (some ⟨ab, 0, none⟩) from by simp [upd, ee0, ee4])]; simp [go_sem]) fun F3 => ?_
  refine lyp F3 rfl HCC rfl (by omega) (wanted_none rfl) (v := Value.map (some mb)) (fun wr hwr => by simp only [execOp, (F3.eval 13 (by omega)).trans (show _ = Value.pointer (some ⟨ab, 0, none⟩) from by simp [upd, ee0, ee4])]; simp [go_sem, show wr.cell? ⟨ab, 0, none⟩ = some (.map (some mb)) from hwr.1.cell 0]) fun F4 => ?_
  refine lyp F4 rfl HCC rfl (by omega) (wanted_none rfl) (v := Value.pointer (some ⟨cb, 0, none⟩)) (fun wr hwr => by simp only [execOp, (F4.eval 4 (by omega)).trans (show _ = Value.pointer (some ⟨cb, 0, none⟩) from by simp [upd, ee0, ee4])]; simp [go_sem]) fun F5 => ?_
  refine lyp F5 rfl HCC rfl (by omega) (wanted_none rfl) (v := Value.string ⟨n.toArray⟩) (fun wr hwr => by simp only [execOp, (F5.eval 15 (by omega)).trans (show _ = Value.pointer (some ⟨cb, 0, none⟩) from by simp [upd, ee0, ee4])]; simp [go_sem, show wr.cell? ⟨cb, 0, none⟩ = some (.string ⟨n.toArray⟩) from hwr.2.1.cell 0]) fun F6 => ?_
  refine lyp F6 rfl HCC rfl (by omega) (wanted_none rfl) (v := Value.agg #[.string ⟨n.toArray⟩, .int .i64 lim, .int .i64 val, .int .i64 held, .map (some hb2)]) (fun wr hwr => by simp only [execOp, (F6.eval 4 (by omega)).trans (show _ = Value.pointer (some ⟨cb, 0, none⟩) from by simp [upd, ee0, ee4])]; simp [go_sem, show wr.cell? ⟨cb, 0, none⟩ = some (.string ⟨n.toArray⟩) from hwr.2.1.cell 0, show wr.cell? ⟨cb, 1, none⟩ = some (.int .i64 lim) from hwr.2.1.cell 1, show wr.cell? ⟨cb, 2, none⟩ = some (.int .i64 val) from hwr.2.1.cell 2, show wr.cell? ⟨cb, 3, none⟩ = some (.int .i64 held) from hwr.2.1.cell 3, show wr.cell? ⟨cb, 4, none⟩ = some (.map (some hb2)) from hwr.2.1.cell 4]) fun F7 => ?_
  refine lst rfl HCC rfl (wanted_none rfl) (w1 := Y2) (by simp only [execOp, (F7.eval 14 (by omega)).trans (show _ = Value.map (some mb) from by simp [upd, ee0, ee4]), (F7.eval 16 (by omega)).trans (show _ = Value.string ⟨n.toArray⟩ from by simp [upd, ee0, ee4]), (F7.eval 17 (by omega)).trans (show _ = Value.agg #[.string ⟨n.toArray⟩, .int .i64 lim, .int .i64 val, .int .i64 held, .map (some hb2)] from by simp [upd, ee0, ee4])]; simp only [Sem.run_bind, Sem.run_pure, Result.andThen_ok, HRUN.out]; try rfl) ?_
  refine ⟨(fun h => absurd h (by decide)), ?_⟩
  skip
  clear F0 F1 F2 F3 F4 F5 F6 F7 ee0 ee4 HCC
  simp only [Act.put, List.setIfInBounds_toArray, List.set_cons_succ, List.set_cons_zero]
  first | go_end0 | go_ret | (go_wp2_with fail; first | go_end0 | go_ret)
  exact ⟨rfl, ⟨hb2, HF.out, HHB.out⟩, HCF.out⟩
end Go.Proofs.Ytaiknlnjahjeiaa
namespace Go.Proofs.Ytaiknlnjahjeiaa
open Go.RowKit Go.PlainAid Go.MapKept
set_option linter.unusedVariables false
set_option linter.unusedSimpArgs false
theorem sum_put (q a : Int) : ∀ H : List (Int × Int), sumH (Gm.putM q a H) = sumH H + a - (Gm.look q H).getD 0
  | [] => by simp [Gm.putM, sumH, Gm.look]
  | y :: t => by
    have ih := sum_put q a t
    by_cases e : q = y.1
    · have e2 : Gm.look q (y :: t) = some y.2 := by simp [Gm.look, List.find?_cons, e]
      rw [e2]
      simp only [Gm.putM, if_pos e, sumH, List.map_cons, List.sum_cons, Option.getD_some]
      omega
    · have e2 : Gm.look q (y :: t) = Gm.look q t := by simp [Gm.look, List.find?_cons, e]
      rw [e2]
      simp only [Gm.putM, if_neg e, sumH, List.map_cons, List.sum_cons] at ih ⊢
      omega
theorem pos_put {q a : Int} {H : List (Int × Int)} (ha : 0 ≤ a) (hp : ∀ p ∈ H, 0 ≤ p.2) : ∀ p ∈ Gm.putM q a H, 0 ≤ p.2 := fun p h => by
  rcases putM_mem h with rfl | ⟨h, _⟩ | ⟨h, _⟩
  · exact ha
  · exact hp p h
  · exact hp p h
theorem look_put {K V : Type} [DecidableEq K] (k j : K) (v : V) : ∀ L : List (K × V), Gm.look j (Gm.putM k v L) = if j = k then some v else Gm.look j L
  | [] => by
    by_cases e : j = k <;> simp [Gm.putM, Gm.look, List.find?_cons, e]
  | y :: t => by
    have ih := look_put k j v t
    by_cases e : k = y.1
    · by_cases e2 : j = k
      · subst e2
        simp [Gm.putM, Gm.look, List.find?_cons, e]
      · have e3 : ¬ j = y.1 := fun h => e2 (by rw [h, e])
        simp [Gm.putM, Gm.look, List.find?_cons, e, e2, e3, fun h : j = y.1 => e3 h]
    · simp only [Gm.putM, if_neg e]
      by_cases e2 : j = y.1
      · have e3 : ¬ j = k := fun h => e (by rw [← h, e2])
        simp [Gm.look, List.find?_cons, e2, if_neg (fun h : y.1 = k => e h.symm)]
      · have e4 : ∀ M : List (K × V), Gm.look j (y :: M) = Gm.look j M := fun M => by simp [Gm.look, List.find?_cons, e2]
        rw [e4, e4, ih]
/-- What an op comes to is right again. -/
theorem ctO_ok {c : Ct} (hc : c.Ok) (k A B q : Int) (ho : opB k A B = true) (n : List UInt8) (hb' : Nat) (h0 : (ctO k A B q c).1.2 = 0) (hk1 : k ≠ 1) :
    (Ct.mk n (ctO k A B q c).2.1 (ctO k A B q c).2.2.1 (ctO k A B q c).2.2.2.1 (some hb') (ctO k A B q c).2.2.2.2).Ok := by
  obtain ⟨l1, l2⟩ := hc.lim
  have l3 := hc.val
  have l4 := hc.sum
  have l5 := hc.heldnn
  have l6 := hc.held
  unfold ctO at h0 ⊢
  by_cases c2 : k = 2
  · simp only [if_pos c2] at h0 ⊢
    subst c2
    simp [opB] at ho
    have b := amtB_yes ho.1
    unfold incO at h0 ⊢
    by_cases hq : c.lim < c.val + c.held + A
    · rw [if_pos hq] at h0; simp at h0
    · rw [if_neg hq]
      exact ⟨⟨l1, l2⟩, by simp only; omega, by simp only; omega, l6, hc.pos, hc.kd⟩
  by_cases c3 : k = 3
  · simp only [if_neg c2, if_pos c3] at h0 ⊢
    subst c3
    simp [opB] at ho
    have b := amtB_yes ho.1
    unfold decO at h0 ⊢
    by_cases hq : c.val < A
    · rw [if_pos hq] at h0; simp at h0
    · rw [if_neg hq]
      exact ⟨⟨l1, l2⟩, by simp only; omega, by simp only; omega, l6, hc.pos, hc.kd⟩
  by_cases c4 : k = 4
  · simp only [if_neg c2, if_neg c3, if_pos c4] at h0 ⊢
    subst c4
    simp [opB] at ho
    have b := amtB_yes ho.1
    unfold holdO at h0 ⊢
    by_cases hq : c.val < A
    · rw [if_pos hq] at h0; simp at h0
    · rw [if_neg hq] at h0 ⊢
      by_cases hu : q < 1 ∨ (Gm.look q c.H).isSome = true
      · rw [if_pos hu] at h0; simp at h0
      · rw [if_neg hu]
        have hz : (Gm.look q c.H).getD 0 = 0 := by
          cases hl : Gm.look q c.H with
          | none => rfl
          | some x => exact absurd (Or.inr (by rw [hl]; rfl)) hu
        refine ⟨⟨l1, l2⟩, by simp only; omega, by simp only; omega, ?_, pos_put (by omega) hc.pos, putM_kd hc.kd⟩
        simp only
        rw [sum_put, hz, ← l6]
        omega
  by_cases c5 : k = 5 ∨ k = 6 ∨ k = 12
  · simp only [if_neg c2, if_neg c3, if_neg c4, if_pos c5] at h0 ⊢
    have b := hc.amt A
    unfold endO at h0 ⊢
    by_cases hq : amt A c = 0
    · rw [if_pos hq] at h0; simp at h0
    · rw [if_neg hq]
      have hs : c.held - amt A c = sumH (Gm.putM A 0 c.H) := by
        rw [sum_put, ← l6]
        unfold amt
        omega
      by_cases c55 : k = 5
      · simp only [if_pos c55]
        exact ⟨⟨l1, l2⟩, l3, by simp only; omega, hs, pos_put (Int.le_refl _) hc.pos, putM_kd hc.kd⟩
      · simp only [if_neg c55]
        exact ⟨⟨l1, l2⟩, by simp only; omega, by simp only; omega, hs, pos_put (Int.le_refl _) hc.pos, putM_kd hc.kd⟩
  by_cases c8 : k = 8
  · simp only [if_neg c2, if_neg c3, if_neg c4, if_neg c5, if_pos c8] at h0 ⊢
    subst c8
    simp [opB] at ho
    have b := amtB_yes ho.2
    unfold takeO at h0 ⊢
    by_cases hv : c.val ≠ A
    · rw [if_pos hv] at h0; simp at h0
    · rw [if_neg hv] at h0 ⊢
      by_cases hq : c.val < B
      · rw [if_pos hq] at h0; simp at h0
      · rw [if_neg hq]
        exact ⟨⟨l1, l2⟩, by simp only; omega, by simp only; omega, l6, hc.pos, hc.kd⟩
  by_cases c9 : k = 9
  · simp only [if_neg c2, if_neg c3, if_neg c4, if_neg c5, if_neg c8, if_pos c9] at h0 ⊢
    subst c9
    simp [opB] at ho
    have b := valB_yes ho.1
    unfold resetO at h0 ⊢
    by_cases hq : c.lim < A + c.held
    · rw [if_pos hq] at h0; simp at h0
    · rw [if_neg hq]
      exact ⟨⟨l1, l2⟩, by simp only; omega, by simp only; omega, l6, hc.pos, hc.kd⟩
  by_cases c10 : k = 10
  · simp only [if_neg c2, if_neg c3, if_neg c4, if_neg c5, if_neg c8, if_neg c9, if_pos c10] at h0 ⊢
    subst c10
    simp [opB] at ho
    have b := amtB_yes ho.1
    unfold recapO at h0 ⊢
    by_cases hq : A < c.val + c.held
    · rw [if_pos hq] at h0; simp at h0
    · rw [if_neg hq]
      exact ⟨⟨by simp only; omega, by simp only; omega⟩, l3, by simp only; omega, l6, hc.pos, hc.kd⟩
  · simp only [if_neg c2, if_neg c3, if_neg c4, if_neg c5, if_neg c8, if_neg c9, if_neg c10] at h0 ⊢
    exact ⟨⟨l1, l2⟩, l3, l4, l6, hc.pos, hc.kd⟩
theorem mapO_ok {L : List (List UInt8 × Ct)} (hL : ∀ p ∈ L, p.2.Ok) (k A B q : Int) (n : List UInt8) (hb' : Nat) (h0 : (mapO k A B q n L).1.2 = 0) :
    (Ct.mk n (mapO k A B q n L).2.1 (mapO k A B q n L).2.2.1 (mapO k A B q n L).2.2.2.1 (some hb') (mapO k A B q n L).2.2.2.2).Ok := by
  unfold mapO at h0 ⊢
  by_cases hr : (nameB n && opB k A B) = false
  · rw [if_pos hr] at h0; simp at h0
  · rw [if_neg hr] at h0 ⊢
    have ho : opB k A B = true := by
      rw [Bool.not_eq_false, Bool.and_eq_true] at hr
      exact hr.2
    cases hl : Gm.look n L with
    | none =>
      rw [hl] at h0
      by_cases hk : k = 1
      · simp only [if_pos hk] at h0 ⊢
        subst hk
        simp [opB] at ho
        have b1 := amtB_yes ho.1
        have b2 := valB_yes ho.2
        unfold createO at h0 ⊢
        by_cases hq : A < B
        · rw [if_pos hq] at h0; simp at h0
        · rw [if_neg hq]
          exact ⟨⟨by simp only; omega, by simp only; omega⟩, by simp only; omega, by simp only; omega, by simp [sumH], (fun p hp => by cases hp), List.Pairwise.nil⟩
      · simp only [if_neg hk] at h0
        simp at h0
    | some c =>
      rw [hl] at h0
      by_cases hk : k = 1
      · simp only [if_pos hk] at h0
        simp at h0
      · simp only [if_neg hk] at h0 ⊢
        exact ctO_ok (hL _ (look_mem hl)) k A B q ho n hb' h0 hk
theorem hbOf_in {k : Int} {n : List UInt8} {L : List (List UInt8 × Ct)} (x : Nat) (h : hbOf k n L = some x) : ∃ c, (n, c) ∈ L ∧ c.hb = some x := by
  unfold hbOf at h
  by_cases hk : k = 1
  · rw [if_pos hk] at h; cases h
  · rw [if_neg hk] at h
    cases hl : Gm.look n L with
    | none => rw [hl] at h; cases h
    | some c => rw [hl] at h; exact ⟨c, look_mem hl, h⟩
/-- The counters behind an op. -/
def doL (R : Out) (n : List UInt8) (hb' : Nat) (L : List (List UInt8 × Ct)) : List (List UInt8 × Ct) := if R.1.2 = 0 then Gm.putM n ⟨n, R.2.1, R.2.2.1, R.2.2.2.1, some hb', R.2.2.2.2⟩ L else L
/-- Which blocks are a map's. -/
def ownA (mb : Nat) (L : List (List UInt8 × Ct)) (k : Nat) : Prop := k = mb ∨ ∃ p ∈ L, p.2.hb = some k
end Go.Proofs.Ytaiknlnjahjeiaa
namespace Go.Proofs.Ytaiknlnjahjeiaa
open Go.RowKit Go.PlainAid Go.MapKept
set_option linter.unusedVariables false
set_option linter.unusedSimpArgs false
set_option maxRecDepth 100000 in
set_option maxHeartbeats 3200000 in
theorem do_any {ab mb : Nat} {L : List (List UInt8 × Ct)} (k A B q : Int) (n : List UInt8) (w : World) (h : AM ab mb L w) (hn : n.length ≤ 140737488355328) :
    Calls Try.prog 12 #[.pointer (some ⟨ab, 0, none⟩), .agg #[.int .i64 k, .string ⟨n.toArray⟩, .int .i64 A, .int .i64 B], .int .i64 q] w fun e w' => ∃ hb', e = .returned (.tuple #[.int .i64 (mapO k A B q n L).1.1, .int .i64 (mapO k A B q n L).1.2]) ∧ AM ab mb (doL (mapO k A B q n L) n hb' L) w' ∧ ((mapO k A B q n L).1.2 = 0 → (∃ p ∈ L, p.2.hb = some hb') ∨ w.heap.size ≤ hb') ∧ Chg (ownA mb L) w w' := by
  obtain ⟨ob, hob⟩ : ∃ b, b = w.heap.size := ⟨_, rfl⟩
  obtain ⟨X, hX⟩ : ∃ X, X = w.alloc (.cells #[.int .i64 k, .string ⟨n.toArray⟩, .int .i64 A, .int .i64 B] 31) := ⟨_, rfl⟩
  have hbX : Below w.heap.size w X := by rw [hX]; exact (Below.refl _ _).alloc (Nat.le_refl _) _
  have Bob : Hid (Blk X ob #[.int .i64 k, .string ⟨n.toArray⟩, .int .i64 A, .int .i64 B] 31) := show Blk X ob #[.int .i64 k, .string ⟨n.toArray⟩, .int .i64 A, .int .i64 B] 31 from by rw [hX, hob]; exact heap_alloc_new w _
  have HBX : Hid (Below w.heap.size w X) := hbX
  have HAM : Hid (AM ab mb L X) := h.more hbX
  have HPL : Hid (Calls Try.prog 22 #[.pointer (some ⟨ab, 0, none⟩), .agg #[.int .i64 k, .string ⟨n.toArray⟩, .int .i64 A, .int .i64 B], .int .i64 q] X (PlPost (hbOf k n L) n (mapO k A B q n L) X)) := plan_any k A B q n X HAM.out hn
  have HOK : Hid (∀ hb', (mapO k A B q n L).1.2 = 0 → (Ct.mk n (mapO k A B q n L).2.1 (mapO k A B q n L).2.2.1 (mapO k A B q n L).2.2.2.1 (some hb') (mapO k A B q n L).2.2.2.2).Ok) := fun hb' h0 => mapO_ok (fun p hp => (h.ct p hp).2.1) k A B q n hb' h0
  have HH0 : Hid (∀ x, hbOf k n L = some x → ∃ c, (n, c) ∈ L ∧ c.hb = some x) := hbOf_in
  generalize mapO k A B q n L = R at *
  generalize hbOf k n L = hb0 at *
  have o0 : X.cell? ⟨ob, 0, none⟩ = some (.int .i64 k) := Bob.out.cell 0
  have o1 : X.cell? ⟨ob, 1, none⟩ = some (.string ⟨n.toArray⟩) := Bob.out.cell 1
  have o2 : X.cell? ⟨ob, 2, none⟩ = some (.int .i64 A) := Bob.out.cell 2
  have o3 : X.cell? ⟨ob, 3, none⟩ = some (.int .i64 B) := Bob.out.cell 3
  clear h hn hbX
  go_enter Try.func12, Try.ntmps12
  go_upto_region 1 with fail
  rw [← hX, ← hob]
  clear hX hob
  go_wp2_with fail
  refine Calls.mono HPL.out ?_
  rintro e9 w1 ⟨fv, rfl, hone, hb1, hdo⟩
  have hst : ∀ (A : Addr) (m : Mode) (W : World), (store A fv m).run Try.prog W = stored Try.prog W A fv m := fun A m W => run_store _ _ _ _ _ hone
  obtain ⟨db, hdb⟩ : ∃ b, b = w1.heap.size := ⟨_, rfl⟩
  obtain ⟨V, hV⟩ : ∃ V, V = w1.alloc (.cells #[.int .i64 R.1.1, .int .i64 R.1.2, fv] 62) := ⟨_, rfl⟩
  have hbV : Below w1.heap.size w1 V := by rw [hV]; exact (Below.refl _ _).alloc (Nat.le_refl _) _
  have VD : Hid (Blk V db #[.int .i64 R.1.1, .int .i64 R.1.2, fv] 62) := show Blk V db #[.int .i64 R.1.1, .int .i64 R.1.2, fv] 62 from by rw [hV, hdb]; exact heap_alloc_new w1 _
  have HDL : Hid (w1.heap.size ≤ db) := show w1.heap.size ≤ db from by rw [hdb]; exact Nat.le_refl _
  have HXV : Hid (Below X.heap.size X V) := hb1.trans (hbV.mono hb1.size)
  have HAV : Hid (AM ab mb L V) := HAM.out.more HXV.out
  have HB1 : Hid (Below X.heap.size X w1) := hb1
  have HBV : Hid (Below w1.heap.size w1 V) := hbV
  have HDO : Hid _ := hdo
  go_upto_region 2 with fail
  rw [← hV, ← hdb]
  clear hV hdb hbV hb1 hdo o0 o1 o2 o3
  have v0 : V.cell? ⟨db, 0, none⟩ = some (.int .i64 R.1.1) := VD.out.cell 0
  have v1 : V.cell? ⟨db, 1, none⟩ = some (.int .i64 R.1.2) := VD.out.cell 1
  have v2 : V.cell? ⟨db, 2, none⟩ = some fv := VD.out.cell 2
  by_cases hr : R.1.2 = 0
  · have HR : Hid (R.1.2 = 0) := hr
    have HD : Hid (DoerAt X.heap.size w1.heap.size hb0 n R.2.1 R.2.2.1 R.2.2.2.1 R.2.2.2.2 fv V) := (HDO.out hr).at HBV.out (fun x hx => by obtain ⟨c, hc, hcb⟩ := HH0.out x hx; have := (HAM.out.lows).2.2 _ hc x hcb; have := HB1.out.size; omega)
    have HCA : Hid _ := carry_yes (lim := R.2.1) (val := R.2.2.1) (held := R.2.2.2.1) (H := R.2.2.2.2) R.1.1 fv V HAV.out HAM.out.lows HXV.out.size HD.out (fun hb' => HOK.out hb' hr) HH0.out
    rw [← hr] at HCA
    clear hr
    go_wp2_with fail
    refine Calls.mono HCA.out ?_
    rintro e9 w2 ⟨rfl, ⟨hb', hA, hh⟩, hc⟩
    have hV2 : Blk w2 db #[.int .i64 R.1.1, .int .i64 R.1.2, fv] 62 := hc.blk VD.out (by rintro (e | e | e); exact HAV.out.map.ne_b VD.out e; (obtain ⟨c, hcm, hcb⟩ := HH0.out _ e; obtain ⟨_, _, x, c1, dd, _⟩ := HAV.out.ct _ hcm; simp only at c1; rw [hcb] at c1; cases c1; exact dd.ne_b VD.out rfl); (have := HDL.out; omega))
    have HFA : Hid (AM ab mb (doL R n hb' L) w2) := show AM ab mb (doL R n hb' L) w2 from by unfold doL; rw [if_pos HR.out]; exact hA
    have HFC : Hid (Chg (ownA mb L) w w2) := (Chg.ofBelow _ (HBX.out.trans (HXV.out.mono HBX.out.size))).trans hc (fun j hj e => by rcases e with e | e | e; exact Or.inl e; (obtain ⟨c, hcm, hcb⟩ := HH0.out _ e; exact Or.inr ⟨_, hcm, hcb⟩); (have := HBX.out.size; omega))
    have u0 : w2.cell? ⟨db, 0, none⟩ = some (.int .i64 R.1.1) := hV2.cell 0
    have u1 : w2.cell? ⟨db, 1, none⟩ = some (.int .i64 R.1.2) := hV2.cell 1
    have HHB : Hid ((∃ p ∈ L, p.2.hb = some hb') ∨ w.heap.size ≤ hb') := show _ ∨ _ from hh.elim (fun e => by obtain ⟨c, hcm, hcb⟩ := HH0.out _ e; exact Or.inl ⟨_, hcm, hcb⟩) (fun e => Or.inr (by have := HBX.out.size; have := HXV.out.size; omega))
    clear hA hh hc hV2 v0 v1 v2
    first | go_end0 | skip
    go_wp2_with fail
    go_quiet (fail)
    go_wp2_with fail
    go_ret2
    exact ⟨hb', rfl, HFA.out.more (below_drewN (Below.refl _ _) _), fun _ => HHB.out, HFC.out.drewN _⟩
  · have HCA : Hid _ := carry_no (ab := ab) R fv V hr
    have HR : Hid (¬ R.1.2 = 0) := hr
    clear hr
    go_wp2_with fail
    refine Calls.mono HCA.out ?_
    rintro e9 w2 ⟨rfl, hb2⟩
    have hV2 : Blk w2 db #[.int .i64 R.1.1, .int .i64 R.1.2, fv] 62 := VD.out.below hb2 VD.out.lt
    have HFA : Hid (AM ab mb (doL R n 0 L) w2) := show AM ab mb (doL R n 0 L) w2 from by unfold doL; rw [if_neg HR.out]; exact HAV.out.more hb2
    have HFC : Hid (Chg (ownA mb L) w w2) := Chg.ofBelow _ ((HBX.out.trans (HXV.out.mono HBX.out.size)).trans (hb2.mono (HBX.out.trans (HXV.out.mono HBX.out.size)).size))
    have u0 : w2.cell? ⟨db, 0, none⟩ = some (.int .i64 R.1.1) := hV2.cell 0
    have u1 : w2.cell? ⟨db, 1, none⟩ = some (.int .i64 R.1.2) := hV2.cell 1
    clear hb2 hV2 v0 v1 v2
    first | go_end0 | skip
    go_wp2_with fail
    go_quiet (fail)
    go_wp2_with fail
    go_ret2
    exact ⟨0, rfl, HFA.out.more (below_drewN (Below.refl _ _) _), fun h => absurd h HR.out, HFC.out.drewN _⟩
theorem results_tmp4 {fn : Func} {t u v x : Tmp} (h : fn.results = #[.tmp t, .tmp u, .tmp v, .tmp x]) (tmps : Array Value) (P : Program) (w : World) :
    (results fn tmps).run P w = .ok (.tuple #[tmps.getD t undef, tmps.getD u undef, tmps.getD v undef, tmps.getD x undef]) w := by
  simp [results, h]
def ctOf (n : List UInt8) (L : List (List UInt8 × Ct)) : Ct := (Gm.look n L).getD zedC
def isOf (n : List UInt8) (L : List (List UInt8 × Ct)) : Bool := (Gm.look n L).isSome
set_option maxRecDepth 100000 in
set_option maxHeartbeats 1600000 in
theorem peek_any {ab mb : Nat} {L : List (List UInt8 × Ct)} (n : List UInt8) (w : World) (h : AM ab mb L w) :
    Calls Try.prog 13 #[.pointer (some ⟨ab, 0, none⟩), .string ⟨n.toArray⟩] w fun e w' => e = .returned (.tuple #[.int .i64 (ctOf n L).val, .int .i64 (ctOf n L).held, .int .i64 (ctOf n L).lim, .bool (isOf n L)]) ∧ Below w.heap.size w w' := by
  have hlk : (Instr.lookup 57 (.map (some mb)) (.string ⟨n.toArray⟩) true).run Try.prog w = .ok (.tuple #[.agg (ctOf n L).cs, .bool (isOf n L)]) w := h.map.look_ok n true
  generalize ctOf n L = c at *
  generalize isOf n L = b at *
  unfold Ct.cs at hlk
  have b0 : w.cell? ⟨ab, 0, none⟩ = some (.map (some mb)) := h.box.cell 0
  clear h
  obtain ⟨cb, hcb⟩ : ∃ x, x = w.heap.size := ⟨_, rfl⟩
  obtain ⟨X, hX⟩ : ∃ X, X = w.alloc (.cells #[.string ⟨c.nm.toArray⟩, .int .i64 c.lim, .int .i64 c.val, .int .i64 c.held, .map c.hb] 67) := ⟨_, rfl⟩
  have hB : Blk X cb #[.string ⟨c.nm.toArray⟩, .int .i64 c.lim, .int .i64 c.val, .int .i64 c.held, .map c.hb] 67 := by rw [hX, hcb]; exact heap_alloc_new w _
  have x1 : X.cell? ⟨cb, 1, none⟩ = some (.int .i64 c.lim) := hB.cell 1
  have x2 : X.cell? ⟨cb, 2, none⟩ = some (.int .i64 c.val) := hB.cell 2
  have x3 : X.cell? ⟨cb, 3, none⟩ = some (.int .i64 c.held) := hB.cell 3
  have HX : Hid (Below w.heap.size w X) := show Below w.heap.size w X from by rw [hX]; exact (Below.refl _ _).alloc (Nat.le_refl _) _
  clear hB
  go_enter Try.func13, Try.ntmps13
  go_upto_region 2 with fail
  rw [← hX, ← hcb]
  clear hX hcb hlk b0
  go_wp2_with fail
  go_quiet (fail)
  go_wp2_with fail
  refine bodyPost_ret (results_tmp4 rfl _ _ _) rfl ?_
  exact ⟨by first | rfl | simp, below_drewN HX.out _⟩
set_option maxRecDepth 100000 in
theorem new_any (w : World) : Calls Try.prog 10 #[] w fun e w' => e = .returned (.pointer (some ⟨w.heap.size + 1, 0, none⟩)) ∧ AM (w.heap.size + 1) w.heap.size [] w' ∧ Below w.heap.size w w' := by
  have hmm := @run_makeMap Try.prog
  go_enter Try.func10, Try.ntmps10
  go_wp2_with fail
  go_ret
  have g1 : Below w.heap.size w (w.alloc (.map #[] 0)) := (Below.refl _ _).alloc (Nat.le_refl _) _
  refine ⟨rfl, ⟨?_, ?_, (fun p hp => by cases hp), List.Pairwise.nil, List.Pairwise.nil⟩, g1.alloc (by simp) _⟩
  · have := heap_alloc_new (w.alloc (.map #[] 0)) (.cells #[.map (some w.heap.size)] 59)
    rw [World.size_alloc] at this
    exact this
  · exact (Gm.HMap.made (M := MC) w).same (((Below.refl _ _).alloc (Nat.le_refl _) _).block _ (by simp))
end Go.Proofs.Ytaiknlnjahjeiaa
namespace Go.Proofs.Ytaiknlnjahjeiaa
open Go.RowKit Go.PlainAid Go.MapKept
set_option linter.unusedVariables false
set_option linter.unusedSimpArgs false
/-- A map that was made since w0; nothing older has changed. -/
structure AX (w0 : World) (ab mb : Nat) (L : List (List UInt8 × Ct)) (w : World) : Prop where
  am : AM ab mb L w
  lo : w0.heap.size ≤ ab ∧ w0.heap.size ≤ mb ∧ ∀ p ∈ L, ∀ x, p.2.hb = some x → w0.heap.size ≤ x
  bel : Below w0.heap.size w0 w
section
variable {w0 w w' : World} {ab mb : Nat} {L : List (List UInt8 × Ct)}
theorem AX.more (h : AX w0 ab mb L w) (hb : Below w.heap.size w w') : AX w0 ab mb L w' := ⟨h.am.more hb, h.lo, h.bel.trans (hb.mono h.bel.size)⟩
theorem AX.new (hb : Below w0.heap.size w0 w) : Calls Try.prog 10 #[] w fun e w' => ∃ ab mb, e = .returned (.pointer (some ⟨ab, 0, none⟩)) ∧ AX w0 ab mb [] w' := by
  refine (new_any w).mono ?_
  rintro e w' ⟨rfl, hA, hb2⟩
  have hs := hb.size
  exact ⟨_, _, rfl, hA, ⟨by omega, hs, fun p hp => by cases hp⟩, hb.trans (hb2.mono hs)⟩
theorem AX.do (h : AX w0 ab mb L w) (k A B q : Int) (n : List UInt8) (hn : n.length ≤ 140737488355328) :
    Calls Try.prog 12 #[.pointer (some ⟨ab, 0, none⟩), .agg #[.int .i64 k, .string ⟨n.toArray⟩, .int .i64 A, .int .i64 B], .int .i64 q] w fun e w' => ∃ hb', e = .returned (.tuple #[.int .i64 (mapO k A B q n L).1.1, .int .i64 (mapO k A B q n L).1.2]) ∧ AX w0 ab mb (doL (mapO k A B q n L) n hb' L) w' := by
  refine (do_any k A B q n w h.am hn).mono ?_
  rintro e w' ⟨hb', rfl, hA, hh, hc⟩
  refine ⟨hb', rfl, hA, ⟨h.lo.1, h.lo.2.1, fun p hp x hx => ?_⟩, h.bel.trans (hc.below h.bel.size (fun k hk => ?_))⟩
  · unfold doL at hp
    by_cases hr : (mapO k A B q n L).1.2 = 0
    · rw [if_pos hr] at hp
      rcases putM_in h.am.kd hp with rfl | ⟨hp, _⟩
      · have hx : hb' = x := by simpa using hx
        subst hx
        rcases hh hr with ⟨p, hp, hpb⟩ | hh
        · exact h.lo.2.2 p hp _ hpb
        · exact Nat.le_trans h.bel.size hh
      · exact h.lo.2.2 p hp x hx
    · rw [if_neg hr] at hp
      exact h.lo.2.2 p hp x hx
  · rcases hk with rfl | ⟨p, hp, hpb⟩
    · exact h.lo.2.1
    · exact h.lo.2.2 p hp _ hpb
theorem AX.peek (h : AX w0 ab mb L w) (n : List UInt8) :
    Calls Try.prog 13 #[.pointer (some ⟨ab, 0, none⟩), .string ⟨n.toArray⟩] w fun e w' => e = .returned (.tuple #[.int .i64 (ctOf n L).val, .int .i64 (ctOf n L).held, .int .i64 (ctOf n L).lim, .bool (isOf n L)]) ∧ AX w0 ab mb L w' := by
  refine (peek_any n w h.am).mono ?_
  rintro e w' ⟨rfl, hb⟩
  exact ⟨rfl, h.more hb⟩
end
theorem al1 : mapO 1 10 4 0 [107] [] = ((0, 0), (10, 4, 0, [])) := by kernel_rfl
theorem al2 (h : Nat) : mapO 2 6 0 0 [107] [([107], ⟨[107], 10, 4, 0, some h, []⟩)] = ((0, 0), (10, 10, 0, [])) := by kernel_rfl
theorem al3 (h : Nat) : mapO 4 3 5 16 [107] [([107], ⟨[107], 10, 10, 0, some h, []⟩)] = ((16, 0), (10, 7, 3, [(16, 3)])) := by kernel_rfl
theorem al4 (h : Nat) : mapO 2 1 0 0 [107] [([107], ⟨[107], 10, 7, 3, some h, [(16, 3)]⟩)] = ((0, 60), (10, 7, 3, [(16, 3)])) := by kernel_rfl
set_option maxRecDepth 100000 in
set_option maxHeartbeats 3200000 in
theorem alive_any (w : World) : Calls Try.prog 9 #[] w fun e w' => e = .returned (.bool true) ∧ Below w.heap.size w w' := by
  have HN : Hid _ := AX.new (Below.refl w.heap.size w)
  go_enter Try.func9, Try.ntmps9
  go_wp2_with fail
  refine Calls.mono HN.out ?_
  rintro e9 w1 ⟨ab, mb, rfl, hA⟩
  have H1 : Hid _ := hA.do 1 10 4 0 [107] (by decide)
  clear hA HN
  go_wp2_with fail
  refine Calls.mono H1.out ?_
  rintro e9 w2 ⟨h1, rfl, hA⟩
  simp only [al1, doL, if_true, Gm.putM] at hA ⊢
  have H2 : Hid _ := hA.do 2 6 0 0 [107] (by decide)
  clear hA H1
  go_wp2_with fail
  refine Calls.mono H2.out ?_
  rintro e9 w3 ⟨h2, rfl, hA⟩
  simp only [al2, doL, if_true, Gm.putM] at hA ⊢
  have H3 : Hid _ := hA.do 4 3 5 16 [107] (by decide)
  clear hA H2
  go_wp2_with fail
  refine Calls.mono H3.out ?_
  rintro e9 w4 ⟨h3, rfl, hA⟩
  simp only [al3, doL, if_true, Gm.putM] at hA ⊢
  have H4 : Hid _ := hA.do 2 1 0 0 [107] (by decide)
  clear hA H3
  go_wp2_with fail
  refine Calls.mono H4.out ?_
  rintro e9 w5 ⟨h4, rfl, hA⟩
  simp only [al4, doL] at hA ⊢
  rw [if_neg (by decide)] at hA
  have H5 : Hid _ := hA.peek [107]
  clear hA H4
  go_wp2_with fail
  refine Calls.mono H5.out ?_
  rintro e9 w6 ⟨rfl, hA⟩
  have HB : Hid (Below w.heap.size w w6) := hA.bel
  rw [show ctOf [107] [([107], Ct.mk [107] 10 7 3 (some h3) [(16, 3)])] = Ct.mk [107] 10 7 3 (some h3) [(16, 3)] from by kernel_rfl, show isOf [107] [([107], Ct.mk [107] 10 7 3 (some h3) [(16, 3)])] = true from by kernel_rfl]
  clear hA H5
  go_wp2_with fail
  go_ret
  exact ⟨rfl, HB.out⟩
end Go.Proofs.Ytaiknlnjahjeiaa
