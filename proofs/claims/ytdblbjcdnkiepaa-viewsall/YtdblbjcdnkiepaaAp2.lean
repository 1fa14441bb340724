import Derived.Test.YtdblbjcdnkiepaaAp1
namespace Go.Proofs.Ytdblbjcdnkiepaa
open Go.RowKit Go.PlainAid Go.MapKept
set_option linter.unusedVariables false
set_option linter.unusedSimpArgs false
section
variable {L : Nat} {own0 : Nat → Prop} {w0 w : World} {R : List (Pt L)}
theorem unit_markV {lg n lc q : Nat} {m : Int} {D : List Ent} (h : AS own0 w0 (unitP L 46 7 (.slice (some ⟨lg, 0, none⟩) n lc) n (flatV (vmk m q ++ D.drop q)) (.slice none 0 0) 0 [] :: R) w) (hD : D.length = n) (hq : q < n) :
    (∀ t, t < 7 → ∃ v, w.cell? ⟨lg, q * 7 + t, none⟩ = some v) ∧ (∀ t, w.frozen? ⟨lg, t, none⟩ = false) ∧ AS own0 w0 (unitP L 46 7 (.slice (some ⟨lg, 0, none⟩) n lc) n (flatV (vmk m (q + 1) ++ D.drop (q + 1))) (.slice none 0 0) 0 [] :: R) (((((((w.setCell ⟨lg, q * 7, none⟩ (.string ⟨([] : List UInt8).toArray⟩)).setCell ⟨lg, q * 7 + 1, none⟩ (.int .i64 (q : Int))).setCell ⟨lg, q * 7 + 2, none⟩ (.int .i64 0)).setCell ⟨lg, q * 7 + 3, none⟩ (.int .i64 m)).setCell ⟨lg, q * 7 + 4, none⟩ (.int .i64 0)).setCell ⟨lg, q * 7 + 5, none⟩ (.int .i64 0)).setCell ⟨lg, q * 7 + 6, none⟩ (.int .i64 0)) := by
  obtain ⟨hx, hm⟩ := h.head
  have hdl : (vmk m q ++ D.drop q).length = n := by rw [List.length_append, vmk_len, List.length_drop]; omega
  obtain ⟨o0, g0⟩ := World.ownsRow.stored hx (q * 7) (.string ⟨([] : List UInt8).toArray⟩)
  obtain ⟨o1, g1⟩ := World.ownsRow.stored o0 (q * 7 + 1) (.int .i64 (q : Int))
  obtain ⟨o2, g2⟩ := World.ownsRow.stored o1 (q * 7 + 2) (.int .i64 0)
  obtain ⟨o3, g3⟩ := World.ownsRow.stored o2 (q * 7 + 3) (.int .i64 m)
  obtain ⟨o4, g4⟩ := World.ownsRow.stored o3 (q * 7 + 4) (.int .i64 0)
  obtain ⟨o5, g5⟩ := World.ownsRow.stored o4 (q * 7 + 5) (.int .i64 0)
  obtain ⟨o6, g6⟩ := World.ownsRow.stored o5 (q * 7 + 6) (.int .i64 0)
  rw [flatV_set (vmk m q ++ D.drop q) q ⟨0, [], (q : Int), 0, m, 0, 0, 0⟩ (by rw [hdl]; exact hq), vmk_set (by omega)] at o6
  refine ⟨fun t ht => ?_, fun t => World.ownsRow.frozenAt hx t, ?_⟩
  · have e0 := World.ownsRow.cellAt hx (q * 7 + t) (by omega)
    exact ⟨_, e0.trans (List.getElem?_eq_getElem (by rw [flatV_length, hdl]; omega))⟩
  · have hcc := (((((((setCell_chg w lg (q * 7) (.string ⟨([] : List UInt8).toArray⟩)).trans (setCell_chg _ lg (q * 7 + 1) (.int .i64 (q : Int))) (fun _ _ e => e)).trans (setCell_chg _ lg (q * 7 + 2) (.int .i64 0)) (fun _ _ e => e)).trans (setCell_chg _ lg (q * 7 + 3) (.int .i64 m)) (fun _ _ e => e)).trans (setCell_chg _ lg (q * 7 + 4) (.int .i64 0)) (fun _ _ e => e)).trans (setCell_chg _ lg (q * 7 + 5) (.int .i64 0)) (fun _ _ e => e)).trans (setCell_chg _ lg (q * 7 + 6) (.int .i64 0)) (fun _ _ e => e))
    exact h.swap (hcc.mono (fun j _ e => Or.inl (by rw [e]; rfl))) ⟨o6, ownsRow_same hm (fun gg hgg => by cases hgg)⟩ (fun kk hkk => Or.inl hkk)
theorem unit_markR {lg n lc q : Nat} {m : Int} {D : List (Int × Int)} (h : AS own0 w0 (unitP L 44 2 (.slice (some ⟨lg, 0, none⟩) n lc) n (flatR (rmk m q ++ D.drop q)) (.slice none 0 0) 0 [] :: R) w) (hD : D.length = n) (hq : q < n) :
    (∀ t, t < 2 → ∃ v, w.cell? ⟨lg, q * 2 + t, none⟩ = some v) ∧ (∀ t, w.frozen? ⟨lg, t, none⟩ = false) ∧ AS own0 w0 (unitP L 44 2 (.slice (some ⟨lg, 0, none⟩) n lc) n (flatR (rmk m (q + 1) ++ D.drop (q + 1))) (.slice none 0 0) 0 [] :: R) ((w.setCell ⟨lg, q * 2, none⟩ (.int .i64 m)).setCell ⟨lg, q * 2 + 1, none⟩ (.int .i64 (q : Int))) := by
  obtain ⟨hx, hm⟩ := h.head
  have hdl : (rmk m q ++ D.drop q).length = n := by rw [List.length_append, rmk_len, List.length_drop]; omega
  obtain ⟨o0, g0⟩ := World.ownsRow.stored hx (q * 2) (.int .i64 m)
  obtain ⟨o1, g1⟩ := World.ownsRow.stored o0 (q * 2 + 1) (.int .i64 (q : Int))
  rw [flatR_set (by rw [hdl]; exact hq), rmk_set (by omega)] at o1
  refine ⟨fun t ht => ?_, fun t => World.ownsRow.frozenAt hx t, ?_⟩
  · have e0 := World.ownsRow.cellAt hx (q * 2 + t) (by omega)
    exact ⟨_, e0.trans (List.getElem?_eq_getElem (by rw [flatR_length, hdl]; omega))⟩
  · have hcc := ((setCell_chg w lg (q * 2) (.int .i64 m)).trans (setCell_chg _ lg (q * 2 + 1) (.int .i64 (q : Int))) (fun _ _ e => e))
    exact h.swap (hcc.mono (fun j _ e => Or.inl (by rw [e]; rfl))) ⟨o1, ownsRow_same hm (fun gg hgg => by cases hgg)⟩ (fun kk hkk => Or.inl hkk)
end
end Go.Proofs.Ytdblbjcdnkiepaa
