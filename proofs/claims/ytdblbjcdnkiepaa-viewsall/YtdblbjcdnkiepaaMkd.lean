import Derived.Test.YtdblbjcdnkiepaaRnh
namespace Go.Proofs.Ytdblbjcdnkiepaa
open Go.RowKit Go.PlainAid Go.MapKept
set_option linter.unusedVariables false
set_option linter.unusedSimpArgs false
/-- Marks in a list of views, and of rights. -/
def mkV (base : Int) (n : Nat) : List Ent := (List.range n).map fun (i : Nat) => ⟨0, [], 0, 0, base - i, 0, 0, 0⟩
def mkR (b : Int) (n : Nat) : List (Int × Int) := (List.range n).map fun (i : Nat) => (-1 - (i : Int), b)
theorem mkV_len (base : Int) (n : Nat) : (mkV base n).length = n := by simp [mkV]
theorem mkR_len (b : Int) (n : Nat) : (mkR b n).length = n := by simp [mkR]
theorem mkV_at {base : Int} {n i : Nat} (h : i < n) : (mkV base n)[i]? = some ⟨0, [], 0, 0, base - i, 0, 0, 0⟩ := by simp [mkV, h]
theorem mkR_at {b : Int} {n i : Nat} (h : i < n) : (mkR b n)[i]? = some (-1 - (i : Int), b) := by simp [mkR, h]
theorem flatR_get : ∀ (rs : List (Int × Int)) (i : Nat) (p : Int × Int), rs[i]? = some p → (flatR rs)[i * 2]? = some (.int .i64 p.1) ∧ (flatR rs)[i * 2 + 1]? = some (.int .i64 p.2)
  | [], i, p, h => by simp at h
  | q :: t, 0, p, h => by
    simp at h
    subst h
    exact ⟨rfl, rfl⟩
  | q :: t, i + 1, p, h => by
    have ih := flatR_get t i p (by simpa using h)
    rw [flatR_cons]
    constructor
    · rw [show (i + 1) * 2 = i * 2 + 1 + 1 from by omega, List.getElem?_cons_succ, List.getElem?_cons_succ]
      exact ih.1
    · rw [show (i + 1) * 2 + 1 = i * 2 + 1 + 1 + 1 from by omega, List.getElem?_cons_succ, List.getElem?_cons_succ]
      exact ih.2
set_option maxRecDepth 100000 in
set_option maxHeartbeats 3200000 in
theorem marked_any {pb La Lb nd nk : Nat} {y0 y1 y4 dg kn : Value} (w : World) (hB : Blk w pb #[y0, y1, dg, kn, y4] 68) (hd : w.ownsRow La 46 7 dg nd (flatV (mkV (-1) nd))) (hk : w.ownsRow Lb 44 2 kn nk (flatR (mkR (-7) nk))) (h1 : nd ≤ 100000) (h2 : nk ≤ 100000) :
    Calls Try.prog 70 #[.pointer (some ⟨pb, 0, none⟩)] w fun e w' => e = .returned (.bool true) ∧ w' = w := by
  obtain ⟨da, dc, hdv, _, _, hdc⟩ := own_read hd
  subst hdv
  obtain ⟨ka, kc, hkv, _, _, hkc⟩ := own_read hk
  subst hkv
  have c2 : w.cell? ⟨pb, 2, none⟩ = some (.slice da nd dc) := hB.cell 2
  have c3 : w.cell? ⟨pb, 3, none⟩ = some (.slice ka nk kc) := hB.cell 3
  have HDC : Hid (0 < nd → ∃ g, da = some ⟨g, 0, none⟩ ∧ La ≤ g ∧ g < w.heap.size ∧ ∀ j u, (flatV (mkV (-1) nd))[j]? = some u → w.cell? ⟨g, j, none⟩ = some u) := hdc
  have HKC : Hid (0 < nk → ∃ g, ka = some ⟨g, 0, none⟩ ∧ Lb ≤ g ∧ g < w.heap.size ∧ ∀ j u, (flatR (mkR (-7) nk))[j]? = some u → w.cell? ⟨g, j, none⟩ = some u) := hkc
  clear hB hd hk hdc hkc
  go_enter Try.func70, Try.ntmps70
  go_wp2_with fail
  go_loopw [3] (fun i wr => ∃ q : Nat, q ≤ nd ∧ i = .int .i64 q ∧ wr = w) (fun i _ => nd - (intOf i).toNat)
  case atStart => exact ⟨0, Nat.zero_le _, rfl, rfl⟩
  case round =>
    obtain ⟨q, hq, rfl, hwr⟩ := hrel
    replace hwr := hwr.symm
    subst hwr
    by_cases hlt : q < nd
    · obtain ⟨g, hg, _, _, hc⟩ := HDC.out (by omega)
      subst hg
      have d0 : w.cell? ⟨g, q * 7, none⟩ = some (.string ⟨#[]⟩) := hc (q * 7) _ (flatV_get _ q 0 _ (mkV_at hlt) (by decide))
      have d3 : w.cell? ⟨g, q * 7 + 3, none⟩ = some (.int .i64 (-1 - (q : Int))) := hc (q * 7 + 3) _ (flatV_get _ q 3 _ (mkV_at hlt) (by decide))
      have hw : IntKind.i64.wrap (-1 - (q : Int)) = -1 - (q : Int) := by rw [IntKind.wrap_i64]; omega
      clear hc HDC
      go_wp2_with fail
      go_roundw
      case rel => exact ⟨q + 1, by omega, by go_num, by first | rfl | trivial⟩
      case measure => simp [intOf]; omega
    · clear HDC
      go_wp2_with fail
      go_loopw [4] (fun i wr => ∃ q : Nat, q ≤ nk ∧ i = .int .i64 q ∧ wr = w) (fun i _ => nk - (intOf i).toNat)
      case atStart => exact ⟨0, Nat.zero_le _, rfl, rfl⟩
      case round =>
        obtain ⟨p, hp, rfl, hwr⟩ := hrel
        replace hwr := hwr.symm
        subst hwr
        by_cases hlt2 : p < nk
        · obtain ⟨g, hg, _, _, hc⟩ := HKC.out (by omega)
          subst hg
          obtain ⟨e0, e1⟩ := flatR_get _ p _ (mkR_at (b := -7) hlt2)
          have d0 : w.cell? ⟨g, p * 2, none⟩ = some (.int .i64 (-1 - (p : Int))) := hc _ _ e0
          have d1 : w.cell? ⟨g, p * 2 + 1, none⟩ = some (.int .i64 (-7)) := hc _ _ e1
          have hw : IntKind.i64.wrap (-1 - (p : Int)) = -1 - (p : Int) := by rw [IntKind.wrap_i64]; omega
          clear hc HKC e0 e1
          go_wp2_with fail
          go_roundw
          case rel => exact ⟨p + 1, by omega, by go_num, by first | rfl | trivial⟩
          case measure => simp [intOf]; omega
        · clear HKC
          go_wp2_with fail
          go_ret
          exact ⟨rfl, rfl⟩
end Go.Proofs.Ytdblbjcdnkiepaa
