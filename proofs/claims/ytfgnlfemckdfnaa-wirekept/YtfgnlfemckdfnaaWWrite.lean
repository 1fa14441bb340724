import Derived.Test.YtfgnlfemckdfnaaJC
namespace Go.Proofs.Ytfgnlfemckdfnaa
open Go.RowKit Go.PlainAid
theorem catch_w_panicking (p q : Nat) (x y : Value) (u : TypeId) (pv : Value) (older : List PanicEntry) (w : World) (hc : w.cell? ⟨p, 0, none⟩ = some x) (hd : w.cell? ⟨q, 0, none⟩ = some y) (hz : w.frozen? ⟨p, 0, none⟩ = false) (hz2 : w.frozen? ⟨q, 0, none⟩ = false) (hne : p ≠ q) :
    CallsD Try.prog 79 #[.pointer (some ⟨p, 0, none⟩), .pointer (some ⟨q, 0, none⟩)] (.panicking ({ v := .iface u pv, recovered := false } :: older)) w fun e u' w' =>
      e = .returned (.tuple #[]) ∧ u' = .panicking ({ v := .iface u pv, recovered := true } :: older) ∧ w' = (w.setCell ⟨p, 0, none⟩ (.slice none 0 0)).setCell ⟨q, 0, none⟩ (.int .i64 21) := by
  refine callsD_of_wpS Try.func79 rfl fun c₀ cs hu => ?_
  apply wpS_seq
  apply wpS_region
  simp [wpOpsS, go_sem, recoverD, hu, Try.ntmps79, Exit.thenS]
  refine wpS_cond (t := true) (by simp [Act.eval, Array.replicate]) ?_
  simp only [if_true]
  apply wpS_region
  simp [wpOpsS, go_sem, hc, hz, hd, hz2, bodyPostS, results, Try.results79]
theorem catch_w_idle (p q : Nat) (w : World) :
    CallsD Try.prog 79 #[.pointer (some ⟨p, 0, none⟩), .pointer (some ⟨q, 0, none⟩)] .returning w fun e u' w' => e = .returned (.tuple #[]) ∧ u' = .returning ∧ w' = w := by
  refine callsD_of_wpS Try.func79 rfl fun c₀ cs hu => ?_
  apply wpS_seq
  apply wpS_region
  simp [wpOpsS, go_sem, recoverD, hu, Try.ntmps79, Exit.thenS]
  refine wpS_cond (t := false) (by simp [Act.eval, Array.replicate]) ?_
  simp only [Bool.false_eq_true, if_false]
  refine wpS_of_wp (wp_skip ?_)
  cases c₀
  simp_all [bodyPostS, results, Try.results79]
theorem two_cells {w : World} {L : Nat} {c0 c1 x y : Value} {t0 t1 : TypeId} (m0 : w.heap[L]? = some (.cells #[c0] t0 (0, 0))) (m1 : w.heap[L + 1]? = some (.cells #[c1] t1 (0, 0))) :
    ((w.setCell ⟨L, 0, none⟩ x).setCell ⟨L + 1, 0, none⟩ y).cell? ⟨L, 0, none⟩ = some x ∧ ((w.setCell ⟨L, 0, none⟩ x).setCell ⟨L + 1, 0, none⟩ y).cell? ⟨L + 1, 0, none⟩ = some y := by
  have h0 : ((w.setCell ⟨L, 0, none⟩ x).setCell ⟨L + 1, 0, none⟩ y).heap[L]? = some (.cells #[x] t0 (0, 0)) := by
    rw [Below.heap_setCell _ _ _ _ (by simp)]
    simp [World.setCell, Array.getElem?_modify, m0]
  have h1 : ((w.setCell ⟨L, 0, none⟩ x).setCell ⟨L + 1, 0, none⟩ y).heap[L + 1]? = some (.cells #[y] t1 (0, 0)) := by
    have : (w.setCell ⟨L, 0, none⟩ x).heap[L + 1]? = some (.cells #[c1] t1 (0, 0)) := (Below.heap_setCell _ _ _ _ (by simp)).trans m1
    generalize w.setCell ⟨L, 0, none⟩ x = w1 at *
    simp [World.setCell, Array.getElem?_modify, this]
  exact ⟨by rw [cell_of_row _ _ 0 _ _ _ h0]; rfl, by rw [cell_of_row _ _ 0 _ _ _ h1]; rfl⟩
def WDone (r : Option (List UInt8)) (w : World) (e : Ending) (w' : World) : Prop := Below w.heap.size w w' ∧ match r with
  | none => e = .returned (.tuple #[.slice none 0 0, .int .i64 21])
  | some bs => ∃ v, e = .returned (.tuple #[v, .int .i64 0]) ∧ w'.ownsRow w.heap.size 5 1 v bs.length (bs.map B)
set_option maxRecDepth 100000 in
set_option maxHeartbeats 1600000 in
theorem write_any (K : Nat) (cs : Array Value) (r : Option (List UInt8)) (w : World) (hE : ∀ args w, (callFunc K args).run Try.prog w = .ok (.enter K args) w)
    (hK : ∀ w1, WSt (w.heap.size + 1 + 1) (.slice none 0 0) [] w1 → Below w.heap.size w w1 → Calls Try.prog K (#[WH (w.heap.size + 1 + 1)] ++ cs) w1 (WPost (w.heap.size + 1 + 1) [] w1 r)) :
    Calls Try.prog 34 #[.func (.func K) #[] cs] w (WDone r w) := by
  have hmf : ∀ (fn : Fn) (first cap : Array Value) (w : World), (Instr.makeFunc fn first cap).run Try.prog w = .ok (.func fn first cap) w := fun _ _ _ _ => rfl
  have hb1 : Below w.heap.size w (((w.alloc (.cells #[.slice none 0 0] 22)).alloc (.cells #[.int .i64 0] 32)).alloc (.cells #[.slice none 0 0] 142)) := by go_grown
  have hw := hK (((w.alloc (.cells #[.slice none 0 0] 22)).alloc (.cells #[.int .i64 0] 32)).alloc (.cells #[.slice none 0 0] 142)) ⟨by simpa using heap_alloc_new ((w.alloc (.cells #[.slice none 0 0] 22)).alloc (.cells #[.int .i64 0] 32)) (.cells #[.slice none 0 0] 142), World.ownsRow_nil _ _ _ _⟩ hb1
  have n0 : (((w.alloc (.cells #[.slice none 0 0] 22)).alloc (.cells #[.int .i64 0] 32)).alloc (.cells #[.slice none 0 0] 142)).heap[w.heap.size]? = some (.cells #[.slice none 0 0] 22 (0, 0)) := by
    rw [Below.heap_alloc _ _ _ (by simp; omega), Below.heap_alloc _ _ _ (by simp)]; exact heap_alloc_new w _
  have n1 : (((w.alloc (.cells #[.slice none 0 0] 22)).alloc (.cells #[.int .i64 0] 32)).alloc (.cells #[.slice none 0 0] 142)).heap[w.heap.size + 1]? = some (.cells #[.int .i64 0] 32 (0, 0)) := by
    rw [Below.heap_alloc _ _ _ (by simp)]; simpa using heap_alloc_new (w.alloc (.cells #[.slice none 0 0] 22)) (.cells #[.int .i64 0] 32)
  go_enter_defers Try.func34, Try.ntmps34
  go_wp2_with fail
  generalize ((w.alloc (.cells #[.slice none 0 0] 22)).alloc (.cells #[.int .i64 0] 32)).alloc (.cells #[.slice none 0 0] 142) = w1 at *
  generalize hL : w.heap.size = L at *
  unfold WH at hw
  refine hw.mono ?_
  intro e w2 h
  obtain ⟨hst, h⟩ := h
  have m0 : w2.heap[L]? = some (.cells #[.slice none 0 0] 22 (0, 0)) := (hst.below.block L (by omega)).trans n0
  have m1 : w2.heap[L + 1]? = some (.cells #[.int .i64 0] 32 (0, 0)) := (hst.below.block (L + 1) (by omega)).trans n1
  have c0 : w2.cell? ⟨L, 0, none⟩ = some (.slice none 0 0) := by rw [cell_of_row _ _ 0 _ _ _ m0]; rfl
  have c1 : w2.cell? ⟨L + 1, 0, none⟩ = some (.int .i64 0) := by rw [cell_of_row _ _ 0 _ _ _ m1]; rfl
  have z0 : w2.frozen? ⟨L, 0, none⟩ = false := by simp [World.frozen?, m0]
  have z1 : w2.frozen? ⟨L + 1, 0, none⟩ = false := by simp [World.frozen?, m1]
  have hb2 : Below L w w2 := hb1.trans (hst.below.mono (by omega))
  clear hw n0 n1 hst hb1
  cases r with
  | none =>
    subst h
    show bodyPostD _ _ _ _ _ _
    have hb3 : Below L w ((w2.setCell ⟨L, 0, none⟩ (.slice none 0 0)).setCell ⟨L + 1, 0, none⟩ (.int .i64 21)) := (hb2.setCell (Nat.le_refl _) _).setCell (Nat.le_succ _) _
    obtain ⟨d0, d1⟩ := two_cells (x := .slice none 0 0) (y := .int .i64 21) m0 m1
    refine leaves_cons (f := 79) (args := #[.pointer (some ⟨L, 0, none⟩), .pointer (some ⟨L + 1, 0, none⟩)]) (by simp) (by simp [go_sem]) ?_
    refine (catch_w_panicking L (L + 1) _ _ 86 _ [] _ c0 c1 z0 z1 (by omega)).mono ?_
    rintro e u' w3 ⟨rfl, rfl, hw3⟩
    rw [← hw3] at d0 d1 hb3
    clear hw3
    simp [Leaves, settle, results, Try.results34, go_sem, d0, d1]
    exact ⟨by rw [hL]; exact hb3, rfl⟩
  | some bs =>
    obtain ⟨rfl, v1, hS1⟩ := h
    have hc := hS1.cell
    have hown := hS1.own
    obtain ⟨ao, cap, rfl, _, _, _, _⟩ := own_from hS1.own
    have hb3 : Below L w ((w2.setCell ⟨L, 0, none⟩ (.slice ao bs.length cap)).setCell ⟨L + 1, 0, none⟩ (.int .i64 0)) := (hb2.setCell (Nat.le_refl _) _).setCell (Nat.le_succ _) _
    obtain ⟨d0, d1⟩ := two_cells (x := .slice ao bs.length cap) (y := .int .i64 0) m0 m1
    have hown3 : ((w2.setCell ⟨L, 0, none⟩ (.slice ao bs.length cap)).setCell ⟨L + 1, 0, none⟩ (.int .i64 0)).ownsRow L 5 1 (.slice ao bs.length cap) bs.length (bs.map B) := by
      have h1 := ownsRow_setCell_below (a := ⟨L + 1, 0, none⟩) (ownsRow_setCell_below (a := ⟨L, 0, none⟩) hown (show L < L + 1 + 1 + 1 by omega) (.slice ao bs.length cap)) (show L + 1 < L + 1 + 1 + 1 by omega) (.int .i64 0)
      refine ⟨by simp, h1.2.imp id ?_⟩
      rintro ⟨g, c', cur, e1, e2, e3⟩
      exact ⟨g, c', cur, e1, by omega, e3⟩
    go_wp2
    generalize (w2.setCell ⟨L, 0, none⟩ (.slice ao bs.length cap)).setCell ⟨L + 1, 0, none⟩ (.int .i64 0) = w3 at *
    refine leaves_cons (f := 79) (args := #[.pointer (some ⟨L, 0, none⟩), .pointer (some ⟨L + 1, 0, none⟩)]) (by simp) (by simp [go_sem]) ?_
    refine (catch_w_idle L (L + 1) w3).mono ?_
    rintro e u' w4 ⟨rfl, rfl, hw4⟩
    subst w4
    simp [Leaves, settle, results, Try.results34, go_sem, d0, d1]
    exact ⟨by rw [hL]; exact hb3, _, rfl, by rw [hL]; exact hown3⟩
end Go.Proofs.Ytfgnlfemckdfnaa
