import Derived.Test.YtlajcaofpmjdlaaAp
import Derived.Test.YtlajcaofpmjdlaaHd
namespace Go.Proofs.Ytlajcaofpmjdlaa
open Go.RowKit Go.PlainAid
set_option linter.unusedVariables false
set_option linter.unusedSimpArgs false
theorem map_range' {α β : Type} (f : α → β) (l : List α) (d : α) : l.map f = (List.range l.length).map (fun k => f (l.getD k d)) := by
  apply List.ext_getElem?
  intro i
  by_cases h : i < l.length
  · simp [h, List.getD_eq_getElem?_getD]
  · simp [h]
theorem apart_any {L pb : Nat} {S : SV} {dp rp lent : Value} {n : Nat} {R : List (Ent L)} (w : World) (h : PH L pb S dp rp lent n R w) (hk : S.Ok n) :
    Calls Try.prog 33 #[.pointer (some ⟨pb, 2, none⟩)] w fun e w' => e = .returned (.bool true) ∧ Below L w w' ∧ Held R w' := by
  have hlw : S.lw.length = S.ln.length := by have := congrArg List.length hk.lw; simpa using this.symm
  obtain ⟨db, hdb⟩ : ∃ db : Value × List UInt8, db = (.slice none 0 0, []) := ⟨_, rfl⟩
  obtain ⟨di, hdi⟩ : ∃ di : Value × List Int, di = (.slice none 0 0, []) := ⟨_, rfl⟩
  have h1 := (PH.parts (X := []) (R := R).1 h).re _ _ [0, 5, 6, 11, 7, 8, 13, 14, 1, 2, 3, 4, 9, 10, 12, 15] (by decide)
  have h2 : Held (([] ++ [boxE L pb (S.cs dp rp lent n) 66, tailE L 30 S.lv S.lb.length ((List.range S.lb.length).map fun k => (S.lb.getD k db).1), tailE L 9 S.wv S.lb.length ((List.range S.lb.length).map fun k => strV (S.lb.getD k db).2)]) ++ (Fl S.lb.length (fun k => datE L (S.lb.getD k db)) ++ ([tailE L 44 S.nv S.ln.length ((List.range S.ln.length).map fun k => (S.ln.getD k di).1), tailE L 44 S.ov S.ln.length ((List.range S.ln.length).map fun k => (S.lw.getD k di).1)] ++ (Fl S.ln.length (fun k => intE L (S.ln.getD k di)) ++ (Fl S.ln.length (fun k => intE L (S.lw.getD k di)) ++ (fl (prt pb S dp rp lent n [] R) [1, 2, 3, 4, 9, 10, 12] ++ R)))))) w := by
    have e1 : S.lb.map Prod.fst = (List.range S.lb.length).map fun k => (S.lb.getD k db).1 := map_range' _ _ _
    have e2 : (S.lb.map fun d : Value × List UInt8 => strV d.2) = (List.range S.lb.length).map fun k => strV (S.lb.getD k db).2 := map_range' (fun d : Value × List UInt8 => strV d.2) _ _
    have e3 : S.lb.map (datE L) = Fl S.lb.length (fun k => datE L (S.lb.getD k db)) := map_range' _ _ _
    have e4 : S.ln.map Prod.fst = (List.range S.ln.length).map fun k => (S.ln.getD k di).1 := map_range' _ _ _
    have e5 : S.lw.map Prod.fst = (List.range S.ln.length).map fun k => (S.lw.getD k di).1 := by rw [← hlw]; exact map_range' _ _ _
    have e6 : S.ln.map (intE L) = Fl S.ln.length (fun k => intE L (S.ln.getD k di)) := map_range' _ _ _
    have e7 : S.lw.map (intE L) = Fl S.ln.length (fun k => intE L (S.lw.getD k di)) := by rw [← hlw]; exact map_range' _ _ _
    rw [← e1, ← e2, ← e3, ← e4, ← e5, ← e6, ← e7]
    have e8 : tailE L 44 S.ov S.ln.length (S.lw.map Prod.fst) = tailE L 44 S.ov S.lw.length (S.lw.map Prod.fst) := by rw [hlw]
    rw [e8]
    simpa [fl, prt, List.append_assoc] using h1
  have h3 := Held.impN (G := rE L 5 (fun k => (S.lb.getD k db).1) (fun k => (S.lb.getD k db).2.length) (fun k => (S.lb.getD k db).2.map B)) h2 (fun k _ hP => tail_own hP) (fun k j hj => hj)
  rw [← List.append_assoc, ← List.append_assoc] at h3
  have h4 := Held.impN (G := rE L 3 (fun k => (S.ln.getD k di).1) (fun k => (S.ln.getD k di).2.length) (fun k => (S.ln.getD k di).2.map I)) h3 (fun k _ hP => tail_own hP) (fun k j hj => hj)
  rw [← List.append_assoc] at h4
  have hsame : ∀ k, k < S.ln.length → (S.lw.getD k di).2 = (S.ln.getD k di).2 := fun k hk' => by
    have e1 : (S.ln.map Prod.snd)[k]? = some (S.ln.getD k di).2 := by simp [List.getD_eq_getElem?_getD, hk']
    have e2 : (S.lw.map Prod.snd)[k]? = some (S.lw.getD k di).2 := by simp [List.getD_eq_getElem?_getD, hlw, hk']
    rw [hk.lw, e2] at e1
    exact Option.some.inj e1
  have h5 := Held.impN (G := rE L 3 (fun k => (S.lw.getD k di).1) (fun k => (S.ln.getD k di).2.length) (fun k => (S.ln.getD k di).2.map I)) h4 (fun k hk' hP => by
    have h6 : Tail w L 3 (S.lw.getD k di).1 (S.lw.getD k di).2.length ((S.lw.getD k di).2.map I) := tail_own hP
    rw [hsame k hk'] at h6
    exact h6) (fun k j hj => hj)
  refine apart_t (lv := S.lv) (wv := S.wv) (nv := S.nv) (ov := S.ov) (nb := S.lb.length) (nn := S.ln.length) (V := fun k => (S.lb.getD k db).1) (W := fun k => strV (S.lb.getD k db).2) (s := fun k => (S.lb.getD k db).2) (V2 := fun k => (S.ln.getD k di).1) (W2 := fun k => (S.lw.getD k di).1) (zs := fun k => (S.ln.getD k di).2) (oth := fl (prt pb S dp rp lent n [] R) [1, 2, 3, 4, 9, 10, 12]) (C := S.cs dp rp lent n) w ?_ (fun _ => rfl) (fun _ => rfl) (fun _ => rfl) rfl rfl hk.lb (fun k hk' => ?_) (fun _ => rfl) (fun _ => rfl) rfl rfl hk.ln (fun k hk' => ?_) rfl
  · unfold HP
    simpa [List.append_assoc] using h5
  · refine hk.lbn (S.lb.getD k db) ?_
    rw [List.getD_eq_getElem?_getD, List.getElem?_eq_getElem hk']
    exact List.getElem_mem hk'
  · refine Nat.le_trans (hk.lnn (S.ln.getD k di) ?_) (by decide)
    rw [List.getD_eq_getElem?_getD, List.getElem?_eq_getElem hk']
    exact List.getElem_mem hk'
theorem ap_any (L : Nat) : ApC L := fun pb S dp rp lent n R w h hk => (apart_any w h hk).mono fun e w' ⟨h1, h2, _⟩ => ⟨h1, h2⟩
end Go.Proofs.Ytlajcaofpmjdlaa
