import Derived.Test.YtadfmnlkfcigoaaNw
import Derived.Test.YtadfmnlkfcigoaaJoinE
namespace Go.Proofs.Ytadfmnlkfcigoaa
open Go.RowKit Go.PlainAid Go.MapKept
set_option linter.unusedVariables false
set_option linter.unusedSimpArgs false
set_option maxRecDepth 100000 in
set_option maxHeartbeats 3200000 in
theorem rnew_no (me rep ses room : Int) (w : World) (h : newCode me rep ses room ≠ 0) :
    Calls Try.prog 24 #[.int .i64 me, .int .i64 rep, .int .i64 ses, .int .i64 room] w fun e w' => e = .returned (.tuple #[.pointer none, .int .i64 (newCode me rep ses room)]) ∧ w' = w := by
  by_cases h1 : rep < 2
  · have hc : newCode me rep ses room = 1 := by unfold newCode; rw [if_pos (Or.inl h1)]
    rw [hc]
    clear h hc
    go_enter Try.func24, Try.ntmps24
    go_wp2_with fail
    go_ret2
    exact ⟨rfl, rfl⟩
  by_cases h2 : 16 < rep
  · have hc : newCode me rep ses room = 1 := by unfold newCode; rw [if_pos (Or.inr (Or.inl h2))]
    rw [hc]
    clear h hc
    go_enter Try.func24, Try.ntmps24
    go_wp2_with fail
    go_ret2
    exact ⟨rfl, rfl⟩
  by_cases h3 : ses < 1
  · have hc : newCode me rep ses room = 1 := by unfold newCode; rw [if_pos (Or.inr (Or.inr (Or.inl h3)))]
    rw [hc]
    clear h hc
    go_enter Try.func24, Try.ntmps24
    go_wp2_with fail
    go_ret2
    exact ⟨rfl, rfl⟩
  by_cases h4 : 64 < ses
  · have hc : newCode me rep ses room = 1 := by unfold newCode; rw [if_pos (Or.inr (Or.inr (Or.inr (Or.inl h4))))]
    rw [hc]
    clear h hc
    go_enter Try.func24, Try.ntmps24
    go_wp2_with fail
    go_ret2
    exact ⟨rfl, rfl⟩
  by_cases h5 : room < 1
  · have hc : newCode me rep ses room = 1 := by unfold newCode; rw [if_pos (Or.inr (Or.inr (Or.inr (Or.inr (Or.inl h5)))))]
    rw [hc]
    clear h hc
    go_enter Try.func24, Try.ntmps24
    go_wp2_with fail
    go_ret2
    exact ⟨rfl, rfl⟩
  by_cases h6 : 16 < room
  · have hc : newCode me rep ses room = 1 := by unfold newCode; rw [if_pos (Or.inr (Or.inr (Or.inr (Or.inr (Or.inr (h6))))))]
    rw [hc]
    clear h hc
    go_enter Try.func24, Try.ntmps24
    go_wp2_with fail
    go_ret2
    exact ⟨rfl, rfl⟩
  have hn : ¬ (rep < 2 ∨ 16 < rep ∨ ses < 1 ∨ 64 < ses ∨ room < 1 ∨ 16 < room) := by omega
  by_cases h7 : me < 0
  · have hc : newCode me rep ses room = 3 := by unfold newCode; rw [if_neg hn, if_pos (Or.inl h7)]
    rw [hc]
    clear h hc hn
    go_enter Try.func24, Try.ntmps24
    go_wp2_with fail
    go_ret2
    exact ⟨rfl, rfl⟩
  by_cases h8 : rep ≤ me
  · have hc : newCode me rep ses room = 3 := by unfold newCode; rw [if_neg hn, if_pos (Or.inr h8)]
    rw [hc]
    clear h hc hn
    go_enter Try.func24, Try.ntmps24
    go_wp2_with fail
    go_ret2
    exact ⟨rfl, rfl⟩
  exact absurd (by unfold newCode; rw [if_neg hn, if_neg (by omega)]) h
def flatR (ys : List Rp) : List Value := ys.flatMap rpv
/-- The cells of the document's cache. -/
structure RCC (C : Array Value) (a : CA) (la : Int → Int) (vo vr : Value) : Prop where
  size : C.size = 70
  c0 : C[0]? = some (.int .i64 a.me)
  c1 : C[1]? = some (.int .i64 a.rep)
  c2 : C[2]? = some (.int .i64 a.ses)
  c3 : C[3]? = some (.int .i64 (a.room : Nat))
  cl : ∀ k : Nat, k < 64 → C[4 + k]? = some (.int .i64 (la k))
  c68 : C[68]? = some vo
  c69 : C[69]? = some vr
theorem RCC.setLa {C : Array Value} {a : CA} {la : Int → Int} {vo vr : Value} (h : RCC C a la vo vr) (k : Nat) (hk : k < 64) (i : Int) : RCC (C.setIfInBounds (4 + k) (.int .i64 i)) a (fun t => if t = k then i else la t) vo vr := by
  have hs := h.size
  refine ⟨by simp [hs], ?_, ?_, ?_, ?_, fun j hj => ?_, ?_, ?_⟩
  · rw [Array.getElem?_setIfInBounds_ne (by omega)]; exact h.c0
  · rw [Array.getElem?_setIfInBounds_ne (by omega)]; exact h.c1
  · rw [Array.getElem?_setIfInBounds_ne (by omega)]; exact h.c2
  · rw [Array.getElem?_setIfInBounds_ne (by omega)]; exact h.c3
  · by_cases e : j = k
    · subst e
      rw [Array.getElem?_setIfInBounds_self_of_lt (by omega), if_pos rfl]
    · rw [Array.getElem?_setIfInBounds_ne (by omega), if_neg (by omega)]
      exact h.cl j hj
  · rw [Array.getElem?_setIfInBounds_ne (by omega)]; exact h.c68
  · rw [Array.getElem?_setIfInBounds_ne (by omega)]; exact h.c69
theorem RCC.setO {C : Array Value} {a : CA} {la : Int → Int} {vo vr : Value} (h : RCC C a la vo vr) (v : Value) : RCC (C.setIfInBounds 68 v) a la v vr := by
  have hs := h.size
  refine ⟨by simp [hs], ?_, ?_, ?_, ?_, fun j hj => ?_, by simp [hs], ?_⟩
  · rw [Array.getElem?_setIfInBounds_ne (by omega)]; exact h.c0
  · rw [Array.getElem?_setIfInBounds_ne (by omega)]; exact h.c1
  · rw [Array.getElem?_setIfInBounds_ne (by omega)]; exact h.c2
  · rw [Array.getElem?_setIfInBounds_ne (by omega)]; exact h.c3
  · rw [Array.getElem?_setIfInBounds_ne (by omega)]; exact h.cl j hj
  · rw [Array.getElem?_setIfInBounds_ne (by omega)]; exact h.c69
theorem RCC.setR {C : Array Value} {a : CA} {la : Int → Int} {vo vr : Value} (h : RCC C a la vo vr) (v : Value) : RCC (C.setIfInBounds 69 v) a la vo v := by
  have hs := h.size
  refine ⟨by simp [hs], ?_, ?_, ?_, ?_, fun j hj => ?_, ?_, by simp [hs]⟩
  · rw [Array.getElem?_setIfInBounds_ne (by omega)]; exact h.c0
  · rw [Array.getElem?_setIfInBounds_ne (by omega)]; exact h.c1
  · rw [Array.getElem?_setIfInBounds_ne (by omega)]; exact h.c2
  · rw [Array.getElem?_setIfInBounds_ne (by omega)]; exact h.c3
  · rw [Array.getElem?_setIfInBounds_ne (by omega)]; exact h.cl j hj
  · rw [Array.getElem?_setIfInBounds_ne (by omega)]; exact h.c68
structure RS where
  vo : Value
  vr : Value
  la : Int → Int
  op : List (Int × Int)
  rp : List Rp
/-- The document's cache in memory. -/
structure RC (a : CA) (B rb : Nat) (s : RS) (w : World) : Prop where
  blk : ∃ C, Blk w rb C 87 ∧ RCC C a s.la s.vo s.vr
  ro : w.ownsRow B 32 2 s.vo s.op.length (flatC s.op)
  rr : w.ownsRow B 36 4 s.vr s.rp.length (flatR s.rp)
  lo : B ≤ rb
def RS.own (s : RS) (rb k : Nat) : Prop := k = rb ∨ s.vo.ownBlock = some k ∨ s.vr.ownBlock = some k
section
variable {a : CA} {B rb : Nat} {s : RS} {w w' : World}
theorem RC.lt (h : RC a B rb s w) {k : Nat} (hk : s.own rb k) : k < w.heap.size := by
  rcases hk with rfl | e | e
  · obtain ⟨C, hB, _⟩ := h.blk
    exact hB.lt
  · exact (ownsRow_lt h.ro e).2
  · exact (ownsRow_lt h.rr e).2
theorem RC.ge (h : RC a B rb s w) {k : Nat} (hk : s.own rb k) : B ≤ k := by
  rcases hk with rfl | e | e
  · exact h.lo
  · exact (ownsRow_lt h.ro e).1
  · exact (ownsRow_lt h.rr e).1
theorem RC.keep (h : RC a B rb s w) {A : Nat → Prop} (hc : Chg A w w') (hn : ∀ k, s.own rb k → ¬ A k) : RC a B rb s w' := by
  obtain ⟨C, hB, hC⟩ := h.blk
  exact ⟨⟨C, hc.blk hB (hn _ (Or.inl rfl)), hC⟩, ownsRow_same h.ro (fun g hg => hc.block g (ownsRow_lt h.ro hg).2 (hn g (Or.inr (Or.inl hg)))), ownsRow_same h.rr (fun g hg => hc.block g (ownsRow_lt h.rr hg).2 (hn g (Or.inr (Or.inr hg)))), h.lo⟩
theorem RC.more (h : RC a B rb s w) (hb : Below w.heap.size w w') : RC a B rb s w' := h.keep (Chg.ofBelow (fun _ => False) hb) (fun _ _ e => e)
theorem RC.typ (h : RC a B rb s w) {k : Nat} (hk : s.own rb k) : ∃ C T, Blk w k C T ∧ (T = 87 ∨ T = 32 ∨ T = 36) := by
  rcases hk with rfl | e | e
  · obtain ⟨C, hB, _⟩ := h.blk
    exact ⟨C, 87, hB, Or.inl rfl⟩
  · obtain ⟨C, hB⟩ := ownsRow_type h.ro e
    exact ⟨C, 32, hB, Or.inr (Or.inl rfl)⟩
  · obtain ⟨C, hB⟩ := ownsRow_type h.rr e
    exact ⟨C, 36, hB, Or.inr (Or.inr rfl)⟩
theorem RC.cell (h : RC a B rb s w) : w.cell? ⟨rb, 0, none⟩ = some (.int .i64 a.me) ∧ w.cell? ⟨rb, 1, none⟩ = some (.int .i64 a.rep) ∧ w.cell? ⟨rb, 2, none⟩ = some (.int .i64 a.ses) ∧ w.cell? ⟨rb, 3, none⟩ = some (.int .i64 (a.room : Nat)) ∧ w.cell? ⟨rb, 68, none⟩ = some s.vo ∧ w.cell? ⟨rb, 69, none⟩ = some s.vr := by
  obtain ⟨C, hB, hC⟩ := h.blk
  exact ⟨(hB.cell _).trans hC.c0, (hB.cell _).trans hC.c1, (hB.cell _).trans hC.c2, (hB.cell _).trans hC.c3, (hB.cell _).trans hC.c68, (hB.cell _).trans hC.c69⟩
theorem RC.lac (h : RC a B rb s w) (k : Nat) (hk : k < 64) : w.cell? ⟨rb, 4 + k, none⟩ = some (.int .i64 (s.la k)) := by
  obtain ⟨C, hB, hC⟩ := h.blk
  exact (hB.cell _).trans (hC.cl k hk)
end
def rs0 : RS := ⟨.slice none 0 0, .slice none 0 0, fun _ => 0, [], []⟩
def rz (me rep ses room : Int) : Array Value := #[.int .i64 me, .int .i64 rep, .int .i64 ses, .int .i64 room, .int .i64 0, .int .i64 0, .int .i64 0, .int .i64 0, .int .i64 0, .int .i64 0, .int .i64 0, .int .i64 0, .int .i64 0, .int .i64 0, .int .i64 0, .int .i64 0, .int .i64 0, .int .i64 0, .int .i64 0, .int .i64 0, .int .i64 0, .int .i64 0, .int .i64 0, .int .i64 0, .int .i64 0, .int .i64 0, .int .i64 0, .int .i64 0, .int .i64 0, .int .i64 0, .int .i64 0, .int .i64 0, .int .i64 0, .int .i64 0, .int .i64 0, .int .i64 0, .int .i64 0, .int .i64 0, .int .i64 0, .int .i64 0, .int .i64 0, .int .i64 0, .int .i64 0, .int .i64 0, .int .i64 0, .int .i64 0, .int .i64 0, .int .i64 0, .int .i64 0, .int .i64 0, .int .i64 0, .int .i64 0, .int .i64 0, .int .i64 0, .int .i64 0, .int .i64 0, .int .i64 0, .int .i64 0, .int .i64 0, .int .i64 0, .int .i64 0, .int .i64 0, .int .i64 0, .int .i64 0, .int .i64 0, .int .i64 0, .int .i64 0, .int .i64 0, .slice none 0 0, .slice none 0 0]
theorem rz_eq (me rep ses room : Int) : rz me rep ses room = #[.int .i64 me, .int .i64 rep, .int .i64 ses, .int .i64 room] ++ (Array.replicate 64 (.int .i64 0) ++ #[.slice none 0 0, .slice none 0 0]) := by kernel_rfl
theorem rcc_zero (a : CA) : RCC (rz a.me a.rep a.ses (a.room : Nat)) a (fun _ => 0) (.slice none 0 0) (.slice none 0 0) := by
  have e0 := rz_eq a.me a.rep a.ses (a.room : Nat)
  refine ⟨by kernel_rfl, by kernel_rfl, by kernel_rfl, by kernel_rfl, by kernel_rfl, fun k hk => ?_, by kernel_rfl, by kernel_rfl⟩
  rw [e0, Array.getElem?_append_right (by simp), Array.getElem?_append_left (by simp; omega), Array.getElem?_replicate, if_pos (by simp; omega)]
set_option maxRecDepth 100000 in
set_option maxHeartbeats 3200000 in
theorem rnew_ok (a : CA) (w : World) (hok : COk a) :
    Calls Try.prog 24 #[.int .i64 a.me, .int .i64 a.rep, .int .i64 a.ses, .int .i64 (a.room : Nat)] w fun e w' => e = .returned (.tuple #[.pointer (some ⟨w.heap.size, 0, none⟩), .int .i64 0]) ∧ w' = w.alloc (.cells (rz a.me a.rep a.ses (a.room : Nat)) 87) := by
  obtain ⟨me, rep, ses, room⟩ : (0 ≤ a.me ∧ a.me < a.rep) ∧ (2 ≤ a.rep ∧ a.rep ≤ 16) ∧ (1 ≤ a.ses ∧ a.ses ≤ 64) ∧ (1 ≤ a.room ∧ a.room ≤ 16) := ⟨hok.me, hok.rep, hok.ses, hok.room⟩
  have q1 : ¬ a.rep < 2 := by omega
  have q2 : ¬ 16 < a.rep := by omega
  have q3 : ¬ a.ses < 1 := by omega
  have q4 : ¬ 64 < a.ses := by omega
  have q5 : ¬ ((a.room : Nat) : Int) < 1 := by omega
  have q6 : ¬ 16 < ((a.room : Nat) : Int) := by omega
  have q7 : ¬ a.me < 0 := by omega
  have q8 : ¬ a.rep ≤ a.me := by omega
  clear hok me rep ses room
  go_enter Try.func24, Try.ntmps24
  go_wp2_with fail
  go_ret2
  refine ⟨rfl, ?_⟩
  unfold rz
  first | rfl | kernel_rfl
end Go.Proofs.Ytadfmnlkfcigoaa
