import Derived.Test.YtjpdcahodmomgaaJt1
namespace Go.Proofs.Ytjpdcahodmomgaa
open Go.RowKit Go.PlainAid
set_option linter.unusedVariables false
set_option linter.unusedSimpArgs false
def deadA : Array Value := #[.pointer none, .slice none 0 0, .int .i64 0, .int .i64 0, .bool true]
theorem arr5 {C : Array Value} (h : C.size = 5) : ∃ c0 c1 c2 c3 c4, C = #[c0, c1, c2, c3, c4] := by
  obtain ⟨l⟩ := C
  match l, h with
  | [a, b, c, d, e], _ => exact ⟨a, b, c, d, e, rfl⟩
set_option maxRecDepth 100000 in
theorem die_any {jb : Nat} {C : Array Value} (w : World) (h : Blk w jb C 80) (hC : C.size = 5) :
    Calls Try.prog 39 #[.pointer (some ⟨jb, 0, none⟩)] w fun e w' => e = .returned (.tuple #[]) ∧ Blk w' jb deadA 80 ∧ Chg (fun k => k = jb) w w' := by
  obtain ⟨c0, c1, c2, c3, c4, rfl⟩ := arr5 hC
  have k0 := h.cell 0
  have k1 := h.cell 1
  have k2 := h.cell 2
  have k3 := h.cell 3
  have k4 := h.cell 4
  have f0 := h.frozen 0
  have f1 := h.frozen 1
  have f2 := h.frozen 2
  have f3 := h.frozen 3
  have f4 := h.frozen 4
  have HF : Hid (Blk (((((w.setCell ⟨jb, 0, none⟩ (.pointer none)).setCell ⟨jb, 1, none⟩ (.slice none 0 0)).setCell ⟨jb, 2, none⟩ (.int .i64 0)).setCell ⟨jb, 3, none⟩ (.int .i64 0)).setCell ⟨jb, 4, none⟩ (.bool true)) jb deadA 80 ∧ Chg (fun k => k = jb) w (((((w.setCell ⟨jb, 0, none⟩ (.pointer none)).setCell ⟨jb, 1, none⟩ (.slice none 0 0)).setCell ⟨jb, 2, none⟩ (.int .i64 0)).setCell ⟨jb, 3, none⟩ (.int .i64 0)).setCell ⟨jb, 4, none⟩ (.bool true))) :=
    ⟨((((h.set 0 _).set 1 _).set 2 _).set 3 _).set 4 _, ((((setCell_chg _ _ _ _).trans (setCell_chg _ _ _ _) (fun _ _ e => e)).trans (setCell_chg _ _ _ _) (fun _ _ e => e)).trans (setCell_chg _ _ _ _) (fun _ _ e => e)).trans (setCell_chg _ _ _ _) (fun _ _ e => e)⟩
  clear h
  simp only [List.getElem?_toArray, List.getElem?_cons_zero, List.getElem?_cons_succ] at k0 k1 k2 k3 k4
  go_enter Try.func39, Try.ntmps39
  go_wp2_with fail
  refine bodyPost_end (results_none rfl _ _ _) rfl ?_
  exact ⟨rfl, HF.out.1, HF.out.2⟩
set_option maxRecDepth 100000 in
/-- The deferred function where the disk has gone down. -/
theorem late_die {jb a b : Nat} {C : Array Value} (u : FrameMode) (w : World) (h : w.cell? ⟨a, 0, none⟩ = some (.int .i64 200)) (hb : w.cell? ⟨b, 0, none⟩ = some (.pointer (some ⟨jb, 0, none⟩))) (hB : Blk w jb C 80) (hC : C.size = 5) :
    CallsD Try.prog 38 #[.pointer (some ⟨a, 0, none⟩), .pointer (some ⟨b, 0, none⟩)] u w fun e u' w' => u' = u ∧ (e = .returned (.tuple #[]) ∧ Blk w' jb deadA 80 ∧ Chg (fun k => k = jb) w w') := by
  have HD : Hid _ := die_any w hB hC
  clear hB
  go_enter_d Try.func38, Try.ntmps38
  go_wp2_with fail
  refine Calls.mono HD.out ?_
  rintro e w1 ⟨rfl, h1, h2⟩
  have HF : Hid (Blk w1 jb deadA 80 ∧ Chg (fun k => k = jb) w w1) := ⟨h1, h2⟩
  clear HD h1 h2
  go_wp2_with fail
  first
    | (go_end0; exact ⟨rfl, HF.out.1, HF.out.2⟩)
    | (refine bodyPost_end (results_none rfl _ _ _) rfl ?_; exact ⟨rfl, HF.out.1, HF.out.2⟩)
end Go.Proofs.Ytjpdcahodmomgaa
