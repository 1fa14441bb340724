import Derived.Test.YtmnihombiabkgaaCm
namespace Go.Proofs.Ytmnihombiabkgaa
open Go.RowKit Go.PlainAid Go.MapKept
set_option linter.unusedVariables false
set_option linter.unusedSimpArgs false
theorem tmAt_mem {D : List Int} {i : Nat} {t : Tm} : t ∈ tmAt D i ↔ ∃ d, D[i]? = some d ∧ d ≠ 0 ∧ t = tmOf i d := by
  unfold tmAt
  cases h : D[i]? with
  | none => simp
  | some d =>
    by_cases e : d = 0
    · simp [e]
    · simp [e]
theorem tms_mem {D : List Int} {t : Tm} : ∀ {n : Nat}, t ∈ tmsOf D n ↔ ∃ i d, 1 ≤ i ∧ i ≤ n ∧ D[i]? = some d ∧ d ≠ 0 ∧ t = tmOf i d
  | 0 => by
    simp only [tmsOf, List.not_mem_nil, false_iff]
    rintro ⟨i, d, h1, h2, _⟩
    omega
  | n + 1 => by
    rw [tmsOf, List.mem_append, tms_mem (n := n), tmAt_mem]
    constructor
    · rintro (⟨i, d, h1, h2, h3⟩ | ⟨d, h1, h2, h3⟩)
      · exact ⟨i, d, h1, by omega, h3⟩
      · exact ⟨n + 1, d, by omega, Nat.le_refl _, h1, h2, h3⟩
    · rintro ⟨i, d, h1, h2, h3, h4, h5⟩
      by_cases e : i = n + 1
      · subst e
        exact Or.inr ⟨d, h3, h4, h5⟩
      · exact Or.inl ⟨i, d, h1, by omega, h3, h4, h5⟩
theorem tms_push {D : List Int} {m : Nat} {d : Int} (h : m + 1 < D.length) (hd : d ≠ 0) : tmsOf (D.set (m + 1) d) (m + 1) = tmsOf D m ++ [tmOf (m + 1) d] := by
  rw [tmsOf, tms_congr (D := D.set (m + 1) d) (E := D) m (fun i h1 h2 => List.getElem?_set_ne (by omega))]
  unfold tmAt
  rw [List.getElem?_set_self h]
  simp [hd]
theorem gone_tmAt {D : List Int} {k i : Nat} : gone (k : Int) (tmAt D i) = tmAt (D.set k 0) i := by
  by_cases e : i = k
  · subst e
    unfold tmAt
    by_cases hl : i < D.length
    · rw [List.getElem?_set_self hl, List.getElem?_eq_getElem hl]
      by_cases h0 : D[i] = 0
      · simp [h0, gone]
      · simp [h0, gone, tmOf]
    · rw [List.getElem?_eq_none (by simpa using Nat.le_of_not_lt hl), List.getElem?_eq_none (by simpa using Nat.le_of_not_lt hl)]
      rfl
  · unfold tmAt
    rw [List.getElem?_set_ne (fun e2 => e e2.symm)]
    cases D[i]? with
    | none => rfl
    | some d =>
      by_cases h0 : d = 0
      · simp [h0, gone]
      · have : ¬ ((i : Int) = (k : Int)) := fun e2 => e (Int.ofNat.inj e2)
        simp [h0, gone, tmOf, this]
theorem tms_gone (D : List Int) (k : Nat) : ∀ n, gone (k : Int) (tmsOf D n) = tmsOf (D.set k 0) n
  | 0 => rfl
  | n + 1 => by rw [tmsOf, tmsOf, gone_app, tms_gone D k n, gone_tmAt]
/-- The law under way: so many are armed, at such a time. -/
structure OS (L whb mp gd N cap : Nat) (u : Int) (W : World) (m : Nat) (mst : Int) (D : List Int) (vs : List Value) (now : Int) (wr : World) : Prop where
  wl : WL L whb mp u vs now m (tmsOf D m) ((tmsOf D m).map (kvT u)) wr
  wb : WB u now m (tmsOf D m)
  row : wr.ownsRow L 3 1 (.slice (some ⟨gd, 0, none⟩) N cap) N (D.map I)
  ne : ¬ wown whb mp vs gd
  bd : ∀ (i : Nat) (d : Int), D[i]? = some d → 0 ≤ d ∧ d ≤ mst
  ms : 0 ≤ mst ∧ mst ≤ 1000
  bl : Below L W wr
  lo : L ≤ wr.heap.size
section
variable {L whb mp gd N cap : Nat} {u : Int} {W : World} {m : Nat} {mst : Int} {D : List Int} {vs vs' : List Value} {now : Int} {wr w' : World}
theorem OS.len (h : OS L whb mp gd N cap u W m mst D vs now wr) : D.length = N := by simpa using h.row.1
theorem OS.gl (h : OS L whb mp gd N cap u W m mst D vs now wr) : L ≤ gd ∧ gd < wr.heap.size := ownsRow_lt h.row rfl
/-- A timer is armed; its entry is written. -/
theorem OS.arm (h : OS L whb mp gd N cap u W m mst D vs now wr) {d : Int} (hm : m + 1 < N) (hd : d ≤ 89) (hn : now ≤ 100) (hlm : m ≤ 1000)
    (hw : WL L whb mp u vs' now ((m : Int) + 1) (tmsOf D m ++ [(⟨now + dl d, (m : Int) + 1, 100 + (m : Int), m⟩ : Tm)]) ((tmsOf D m ++ [(⟨now + dl d, (m : Int) + 1, 100 + (m : Int), m⟩ : Tm)]).map (kvT u)) w') (hs : WStp whb mp vs vs' wr w') :
    OS L whb mp gd N cap u W (m + 1) (max mst (now + max d 1)) (D.set (m + 1) (now + max d 1)) vs' now (w'.setCell ⟨gd, m + 1, none⟩ (.int .i64 (now + max d 1))) ∧ w'.frozen? ⟨gd, m + 1, none⟩ = false ∧ (∃ z, w'.cell? ⟨gd, m + 1, none⟩ = some (.int .i64 z)) := by
  have hdl : dl d = max d 1 := by unfold dl; omega
  have hwb := h.wb.push (by omega) d (100 + (m : Int)) m
  have hn0 := h.wb.hw
  have e : tmsOf D m ++ [(⟨now + dl d, (m : Int) + 1, 100 + (m : Int), m⟩ : Tm)] = tmsOf (D.set (m + 1) (now + max d 1)) (m + 1) := by
    rw [tms_push (by rw [h.len]; exact hm) (by omega), hdl]
    congr 2
    unfold tmOf
    congr 1
    · simp; omega
    · simp
  rw [e] at hw hwb
  have hrow : w'.ownsRow L 3 1 (.slice (some ⟨gd, 0, none⟩) N cap) N (D.map I) := ownsRow_same h.row (fun g e => hs.1.block g (ownsRow_lt h.row e).2 (fun hk => by cases e; exact h.ne hk))
  have hne : ¬ wown whb mp vs' gd := fun hk => by
    rcases hs.2 gd hk with h1 | h1
    · exact h.ne h1
    · have := h.gl; omega
  obtain ⟨hset, hfr⟩ := own_setI (k := m + 1) hrow hm (now + max d 1)
  refine ⟨⟨?_, ?_, hset, hne, ?_, ?_, ?_, ?_⟩, hfr, _, own_getI hrow (List.getElem?_eq_getElem (by rw [h.len]; exact hm))⟩
  · have := hw.keep (setCell_chg w' gd (m + 1) (.int .i64 (now + max d 1))) (fun k hk e2 => by subst e2; exact hne hk)
    exact_mod_cast this
  · exact_mod_cast hwb
  · intro i x hx
    by_cases ei : i = m + 1
    · subst ei
      rw [List.getElem?_set_self (by rw [h.len]; exact hm)] at hx
      cases hx
      omega
    · rw [List.getElem?_set_ne (fun e2 => ei e2.symm)] at hx
      have := h.bd i x hx
      omega
  · have := h.ms; omega
  · refine (h.bl.trans (hs.1.below h.lo (fun k hk => h.wl.ge hk))).trans ((setCell_chg w' gd (m + 1) _).below (Nat.le_trans h.lo hs.1.size) (fun k hk => by rw [hk]; exact h.gl.1))
  · simpa [World.setCell] using Nat.le_trans h.lo hs.1.size
/-- One is taken out; its entry is written. -/
theorem OS.cancel (h : OS L whb mp gd N cap u W m mst D vs now wr) {k : Nat} (hk : k < N)
    (hw : WL L whb mp u vs' now m (gone (k : Int) (tmsOf D m)) ((gone (k : Int) (tmsOf D m)).map (kvT u)) w') (hs : WStp whb mp vs vs' wr w') :
    OS L whb mp gd N cap u W m mst (D.set k 0) vs' now (w'.setCell ⟨gd, k, none⟩ (.int .i64 0)) ∧ w'.frozen? ⟨gd, k, none⟩ = false ∧ (∃ z, w'.cell? ⟨gd, k, none⟩ = some (.int .i64 z)) := by
  have hwb := h.wb.gone (k : Int)
  rw [tms_gone] at hw hwb
  have hrow : w'.ownsRow L 3 1 (.slice (some ⟨gd, 0, none⟩) N cap) N (D.map I) := ownsRow_same h.row (fun g e => hs.1.block g (ownsRow_lt h.row e).2 (fun hk => by cases e; exact h.ne hk))
  have hne : ¬ wown whb mp vs' gd := fun hk => by
    rcases hs.2 gd hk with h1 | h1
    · exact h.ne h1
    · have := h.gl; omega
  obtain ⟨hset, hfr⟩ := own_setI (k := k) hrow hk 0
  refine ⟨⟨hw.keep (setCell_chg w' gd k _) (fun j hj e2 => by subst e2; exact hne hj), hwb, hset, hne, ?_, h.ms, ?_, ?_⟩, hfr, _, own_getI hrow (List.getElem?_eq_getElem (by rw [h.len]; exact hk))⟩
  · intro i x hx
    by_cases ei : i = k
    · subst ei
      rw [List.getElem?_set_self (by rw [h.len]; exact hk)] at hx
      cases hx
      have := h.ms
      omega
    · rw [List.getElem?_set_ne (fun e2 => ei e2.symm)] at hx
      exact h.bd i x hx
  · refine (h.bl.trans (hs.1.below h.lo (fun k hk => h.wl.ge hk))).trans ((setCell_chg w' gd k _).below (Nat.le_trans h.lo hs.1.size) (fun k hk => by rw [hk]; exact h.gl.1))
  · simpa [World.setCell] using Nat.le_trans h.lo hs.1.size
theorem OS.tick (h : OS L whb mp gd N cap u W m mst D vs now wr) (hm : m < N) (hn : now < 1000)
    (hw : WL L whb mp u vs' (now + 1) m (tmsOf (zer (now + 1) D m) m) ((tmsOf (zer (now + 1) D m) m).map (kvT u)) w') (hr : w'.ownsRow L 3 1 (.slice (some ⟨gd, 0, none⟩) N cap) N ((zer (now + 1) D m).map I)) (hc : Chg (fun k => wown whb mp vs k ∨ k = gd) wr w') (ho : ∀ k, wown whb mp vs' k → wown whb mp vs k) :
    OS L whb mp gd N cap u W m mst (zer (now + 1) D m) vs' (now + 1) w' := by
  have hwb := h.wb.tick (by omega)
  have hn0 := h.wb.hw
  rw [stay_zer (now + 1) D (by omega) m (by rw [h.len]; exact hm)] at hwb
  refine ⟨hw, hwb, hr, fun hk => h.ne (ho _ hk), ?_, h.ms, h.bl.trans (hc.below h.lo (fun k hk => by rcases hk with hk | rfl; exact h.wl.ge hk; exact h.gl.1)), Nat.le_trans h.lo hc.size⟩
  intro i x hx
  rw [zer_get] at hx
  cases hd : D[i]? with
  | none => rw [hd] at hx; cases hx
  | some d =>
    rw [hd] at hx
    have := h.bd i d hd
    have := h.ms
    simp only [Option.map_some, Option.some.injEq] at hx
    split at hx <;> omega
/-- At the end nothing is left. -/
theorem OS.rest (h : OS L whb mp gd N cap u W m mst D vs now wr) (he : mst ≤ now) : tmsOf D m = [] := by
  rw [List.eq_nil_iff_forall_not_mem]
  intro t ht
  have h1 := (h.wb.due t ht).1
  obtain ⟨i, d, _, _, h2, _, rfl⟩ := tms_mem.1 ht
  have h3 := (h.bd i d h2).2
  replace h1 : now < d := h1
  omega
theorem OS.came (h : OS L whb mp gd N cap u W m mst D vs now wr) (hm : m < N) (hN : N ≤ 61) (hn : now < 1000) :
    Calls Try.prog 15 #[.pointer (some ⟨whb, 0, none⟩), .slice (some ⟨gd, 0, none⟩) N cap, .int .i64 (m : Int)] wr fun e w' => e = .returned (.bool true) ∧ ∃ vs' D', OS L whb mp gd N cap u W m mst D' vs' (now + 1) w' :=
  (came_any wr h.wl h.wb (by omega) h.row hm hN h.ne).mono fun e w' ⟨h1, vs', h2, h3, h4, h5⟩ => ⟨h1, vs', _, h.tick hm hn h2 h3 h4 h5⟩
end
end Go.Proofs.Ytmnihombiabkgaa
