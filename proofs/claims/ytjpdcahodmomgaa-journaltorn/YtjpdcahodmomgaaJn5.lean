import Derived.Test.YtjpdcahodmomgaaJn4
namespace Go.Proofs.Ytjpdcahodmomgaa
open Go.RowKit Go.PlainAid
set_option linter.unusedVariables false
set_option linter.unusedSimpArgs false
def JV.added (y : JV) (rv' v : Value) (bs : List UInt8) : JV := { y with rv := rv', recs := y.recs ++ [(v, bs)], next := y.next + kS bs.length }
set_option maxRecDepth 100000 in
set_option maxHeartbeats 1600000 in
theorem add_any {L jb : Nat} {y : JV} {R : List (Ent L)} {vo : Option Addr} {n c : Nat} {bs : List UInt8} (w : World) (h : Held (y.es L jb ++ (datE L (.slice vo n c, bs) :: R)) w) (hl : bs.length = n) (hn : n ≤ 8192) (hr : y.recs.length ≤ 1000) (hx : y.next ≤ 100000) :
    Calls Try.prog 37 #[.pointer (some ⟨jb, 0, none⟩), .slice vo n c] w fun e w' => e = .returned (.tuple #[]) ∧ ∃ rv', Held ((y.added rv' (.slice vo n c) bs).es L jb ++ R) w' ∧ Chg (fun k => k = jb ∨ y.rv.ownBlock = some k) w w' := by
  obtain ⟨ro, rc, hrv⟩ := tail_val (jrow h)
  have hL := jlow h
  have h1 : Held (tailE L 38 y.rv y.recs.length (y.recs.map Prod.fst) :: boxE L jb y.cs 80 :: (y.recs.map (datE L) ++ (datE L (.slice vo n c, bs) :: R))) w := Held.perm (show Held (boxE L jb y.cs 80 :: tailE L 38 y.rv y.recs.length (y.recs.map Prod.fst) :: (y.recs.map (datE L) ++ (datE L (.slice vo n c, bs) :: R))) w by simpa [JV.es] using h) (List.Perm.swap ..)
  have c1 : w.cell? ⟨jb, 1, none⟩ = some (.slice ro y.recs.length rc) := ((jbox h).cell 1).trans (congrArg some hrv)
  have hlen : y.recs.length + 1 ≤ 1001 := by omega
  obtain ⟨v2, w2, hr2, hH2, hc2, ⟨ao2, cc2, hv2⟩, hat2⟩ := h1.tailApp (t := 30) Try.underlying30 info30 rfl (.slice vo n c) rfl (by omega) (by omega) hL
  have h3 := hH2.perm (List.Perm.swap ..)
  have d1 : w2.cell? ⟨jb, 1, none⟩ = some (.slice ro y.recs.length rc) := (h3.boxB.cell 1).trans (congrArg some hrv)
  have f1 : w2.frozen? ⟨jb, 1, none⟩ = false := h3.boxB.frozen 1
  have h4 := h3.boxSet 1 v2
  obtain ⟨X, hX⟩ : ∃ X, X = w2.setCell ⟨jb, 1, none⟩ v2 := ⟨_, rfl⟩
  rw [← hX] at h4
  have hcX : Chg (fun k => k = jb ∨ y.rv.ownBlock = some k) w X := by
    rw [hX]
    exact (hc2.mono (B := fun k => k = jb ∨ y.rv.ownBlock = some k) (fun _ _ e => Or.inr e)).trans (setCell_chg _ _ _ _) (fun _ _ e => Or.inl e)
  have c2 : X.cell? ⟨jb, 2, none⟩ = some (.int .i64 (y.next : Int)) := h4.boxB.cell 2
  have f2 : X.frozen? ⟨jb, 2, none⟩ = false := h4.boxB.frozen 2
  have HF : Hid (∀ q, Held ((y.added v2 (.slice vo n c) bs).es L jb ++ R) ((X.drewN q).setCell ⟨jb, 2, none⟩ (.int .i64 ((y.next : Int) + (kS n : Int)))) ∧ Chg (fun k => k = jb ∨ y.rv.ownBlock = some k) w ((X.drewN q).setCell ⟨jb, 2, none⟩ (.int .i64 ((y.next : Int) + (kS n : Int))))) := fun q => by
    have h5 := (h4.drewN q).boxSet 2 (.int .i64 ((y.next : Int) + (kS n : Int)))
    refine ⟨?_, (hcX.drewN q).trans (setCell_chg _ _ _ _) (fun _ _ e => Or.inl e)⟩
    have e : (y.added v2 (.slice vo n c) bs).es L jb ++ R = boxE L jb ((y.cs.setIfInBounds 1 v2).setIfInBounds 2 (.int .i64 ((y.next : Int) + (kS n : Int)))) 80 :: tailE L 38 v2 (y.recs.length + 1) (y.recs.map Prod.fst ++ [.slice vo n c]) :: (y.recs.map (datE L) ++ (datE L (.slice vo n c, bs) :: R)) := by
      simp [JV.es, JV.added, JV.cs, hl]
    rw [e]
    exact h5
  have HR : Hid (∀ ty, (Builtin.append_ #[30, 30] ty #[.slice ro y.recs.length rc, .slice (some ⟨w.heap.size, 0, none⟩) 1 1]).run Try.prog (w.alloc (.cells #[.slice vo n c] 38)) = .ok v2 w2) := fun ty => by rw [← hrv]; exact hr2 ty
  have HK : Hid (∀ W : World, Calls Try.prog 40 #[.int .i64 (n : Int)] W fun e w' => e = .returned (.int .i64 (kS n : Int)) ∧ w' = W) := fun W => kS_any n W (by omega)
  have hkn := kS_le n hn
  obtain ⟨k, hk⟩ : ∃ k, k = kS n := ⟨_, rfl⟩
  rw [← hk] at HF HK hkn
  obtain ⟨nx, hnx⟩ : ∃ nx, nx = y.next := ⟨_, rfl⟩
  rw [← hnx] at HF hx c2
  subst hv2
  clear h h1 hr2 hH2 hc2 hat2 h3 h4 hcX hrv hk hnx hL
  go_enter Try.func37, Try.ntmps37
  go_upto_region 1 with (at_builtin; refine wpList_runs rfl _ _ 30 rfl rfl rfl HR.out ?_)
  rw [← hX]
  clear hX c1 d1 f1 HR
  go_region_with (go_at_call 40; refine (HK.out _).mono ?_; rintro e wk ⟨rfl, rfl⟩)
  all_goals
    have e9 : IntKind.i64.wrap ((nx : Int) + (k : Int)) = (nx : Int) + (k : Int) := by rw [IntKind.wrap_i64]; omega
    rw [e9]
    go_wp2_with fail
    refine bodyPost_end (results_none rfl _ _ _) rfl ?_
    exact ⟨rfl, _, (HF.out 1).1, (HF.out 1).2⟩
end Go.Proofs.Ytjpdcahodmomgaa
