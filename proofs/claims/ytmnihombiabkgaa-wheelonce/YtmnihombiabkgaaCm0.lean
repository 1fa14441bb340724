import Derived.Test.YtmnihombiabkgaaSml
namespace Go.Proofs.Ytmnihombiabkgaa
open Go.RowKit Go.PlainAid Go.MapKept
set_option linter.unusedVariables false
set_option linter.unusedSimpArgs false
/-- The timer that an entry of the law's list stands for. -/
def tmOf (i : Nat) (d : Int) : Tm := ⟨d, i, 99 + i, (i : Int) - 1⟩
def tmAt (DU : List Int) (i : Nat) : List Tm := match DU[i]? with
  | some d => if d = 0 then [] else [tmOf i d]
  | none => []
def tmsOf (DU : List Int) : Nat → List Tm
  | 0 => []
  | n + 1 => tmsOf DU n ++ tmAt DU (n + 1)
theorem comes_app (now : Int) (l m : List Tm) : comes now (l ++ m) = comes now l ++ comes now m := List.filter_append ..
theorem stay_app (now : Int) (l m : List Tm) : stay now (l ++ m) = stay now l ++ stay now m := List.filter_append ..
theorem gone_app (n : Int) (l m : List Tm) : gone n (l ++ m) = gone n l ++ gone n m := List.filter_append ..
theorem comes_at {now : Int} {DU : List Int} {i : Nat} {d : Int} (h : DU[i]? = some d) (hn : now ≠ 0) : comes now (tmAt DU i) = if d = now then [tmOf i now] else [] := by
  unfold tmAt
  rw [h]
  by_cases h0 : d = 0
  · have : ¬ d = now := fun e => hn (e.symm.trans h0)
    simp [h0, comes, show ¬ (0 : Int) = now from fun e => hn e.symm]
  · by_cases h1 : d = now
    · subst h1
      simp [h0, comes, tmOf]
    · simp [h0, h1, comes, tmOf]
theorem tms_pre (now : Int) (DU : List Int) (m : Nat) : ∀ n, m ≤ n → ∃ r, comes now (tmsOf DU n) = comes now (tmsOf DU m) ++ r
  | 0, h => by obtain rfl : m = 0 := by omega
               exact ⟨[], by simp⟩
  | n + 1, h => by
    by_cases e : m = n + 1
    · subst e; exact ⟨[], by simp⟩
    · obtain ⟨r, hr⟩ := tms_pre now DU m n (by omega)
      exact ⟨r ++ comes now (tmAt DU (n + 1)), by rw [tmsOf, comes_app, hr, List.append_assoc]⟩
/-- The first m entries that are now's are 0. -/
def zer (now : Int) (DU : List Int) (m : Nat) : List Int := DU.mapIdx fun i d => if 1 ≤ i ∧ i ≤ m ∧ d = now then 0 else d
theorem zer_len (now : Int) (DU : List Int) (m : Nat) : (zer now DU m).length = DU.length := by simp [zer]
theorem zer_get (now : Int) (DU : List Int) (m i : Nat) : (zer now DU m)[i]? = (DU[i]?).map fun d => if 1 ≤ i ∧ i ≤ m ∧ d = now then 0 else d := by simp [zer]
theorem zer_0 (now : Int) (DU : List Int) : zer now DU 0 = DU := by
  apply List.ext_getElem?
  intro i
  rw [zer_get]
  cases DU[i]? with
  | none => rfl
  | some d => simp; omega
theorem zer_skip {now : Int} {DU : List Int} {m : Nat} {d : Int} (h : DU[m + 1]? = some d) (hd : d ≠ now) : zer now DU (m + 1) = zer now DU m := by
  apply List.ext_getElem?
  intro i
  rw [zer_get, zer_get]
  by_cases e : i = m + 1
  · subst e
    rw [h]
    simp [hd]
  · cases DU[i]? with
    | none => rfl
    | some x =>
      simp only [Option.map_some, Option.some.injEq]
      congr 1
      simp only [eq_iff_iff]
      omega
theorem zer_put {now : Int} {DU : List Int} {m : Nat} (h : DU[m + 1]? = some now) : zer now DU (m + 1) = (zer now DU m).set (m + 1) 0 := by
  apply List.ext_getElem?
  intro i
  by_cases e : i = m + 1
  · subst e
    rw [zer_get, h, List.getElem?_set_self (by rw [zer_len]; exact (List.getElem?_eq_some_iff.1 h).1)]
    simp
  · rw [List.getElem?_set_ne (fun e2 => e e2.symm), zer_get, zer_get]
    cases DU[i]? with
    | none => rfl
    | some x =>
      simp only [Option.map_some, Option.some.injEq]
      congr 1
      simp only [eq_iff_iff]
      omega
theorem tms_congr {D E : List Int} : ∀ n, (∀ i, 1 ≤ i → i ≤ n → D[i]? = E[i]?) → tmsOf D n = tmsOf E n
  | 0, _ => rfl
  | n + 1, h => by
    rw [tmsOf, tmsOf, tms_congr n (fun i h1 h2 => h i h1 (by omega))]
    unfold tmAt
    rw [h (n + 1) (by omega) (Nat.le_refl _)]
theorem stay_zer (now : Int) (DU : List Int) (hn : now ≠ 0) : ∀ n, n < DU.length → stay now (tmsOf DU n) = tmsOf (zer now DU n) n
  | 0, _ => rfl
  | n + 1, h => by
    have ih := stay_zer now DU hn n (by omega)
    have hc : tmsOf (zer now DU (n + 1)) n = tmsOf (zer now DU n) n := tms_congr n (fun i h1 h2 => by
      rw [zer_get, zer_get]
      cases DU[i]? with
      | none => rfl
      | some x =>
        simp only [Option.map_some, Option.some.injEq]
        congr 1
        simp only [eq_iff_iff]
        omega)
    rw [tmsOf, tmsOf, stay_app, ih, hc]
    congr 1
    obtain ⟨d, hd⟩ : ∃ d, DU[n + 1]? = some d := ⟨DU[n + 1], List.getElem?_eq_getElem h⟩
    unfold tmAt
    rw [zer_get, hd]
    by_cases h0 : d = 0
    · subst h0
      simp [stay]
    · by_cases h1 : d = now
      · subst h1
        simp [h0, stay, tmOf]
      · simp [h0, h1, stay, tmOf]
theorem own_setI {w : World} {L n g cap k : Nat} {zs : List Int} (h : w.ownsRow L 3 1 (.slice (some ⟨g, 0, none⟩) n cap) n (zs.map I)) (hk : k < n) (z : Int) :
    (w.setCell ⟨g, k, none⟩ (.int .i64 z)).ownsRow L 3 1 (.slice (some ⟨g, 0, none⟩) n cap) n ((zs.set k z).map I) ∧ w.frozen? ⟨g, k, none⟩ = false := by
  have hl : zs.length = n := by simpa using h.1
  rcases h.2 with ⟨h1, _⟩ | ⟨g2, c, cur, h1, h2, h3, h4, h5, h6, h7⟩
  · cases h1
  · cases h1
    have hB : Blk w g cur 3 := h3
    refine ⟨⟨by simpa using h.1, Or.inr ⟨g, cap, cur.setIfInBounds k (.int .i64 z), rfl, h2, hB.set k _, h4, h5, by simpa using h6, ?_⟩⟩, hB.frozen k⟩
    rw [Array.toList_setIfInBounds, List.take_set, h7]
    simp only [List.map_set]
    rfl
theorem own_getI {w : World} {L n g cap k : Nat} {zs : List Int} (h : w.ownsRow L 3 1 (.slice (some ⟨g, 0, none⟩) n cap) n (zs.map I)) {z : Int} (hz : zs[k]? = some z) : w.cell? ⟨g, k, none⟩ = some (.int .i64 z) := by
  have := h.cells (g := g) rfl k (I z) (by rw [List.getElem?_map, hz]; rfl)
  rw [addr_add, Nat.zero_add] at this
  exact this
end Go.Proofs.Ytmnihombiabkgaa
