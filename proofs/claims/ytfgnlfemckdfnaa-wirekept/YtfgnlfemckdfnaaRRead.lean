import Derived.Test.YtfgnlfemckdfnaaJB
import Derived.Test.YtfgnlfemckdfnaaWWrite
namespace Go.Proofs.Ytfgnlfemckdfnaa
open Go.RowKit Go.PlainAid
theorem catch_r_panicking (rv p q hb : Nat) (x y s : Value) (at' : Int) (u : TypeId) (pv : Value) (older : List PanicEntry) (w : World) (hr : w.cell? ⟨rv, 0, none⟩ = some (.pointer (some ⟨hb, 0, none⟩))) (ha : w.cell? ⟨hb, 1, none⟩ = some (.int .i64 at')) (_hs : w.cell? ⟨hb, 0, none⟩ = some s)
    (hc : w.cell? ⟨p, 0, none⟩ = some x) (hd : w.cell? ⟨q, 0, none⟩ = some y) (hz : w.frozen? ⟨p, 0, none⟩ = false) (hz2 : w.frozen? ⟨q, 0, none⟩ = false) (hne : p ≠ q) :
    CallsD Try.prog 66 #[.pointer (some ⟨rv, 0, none⟩), .pointer (some ⟨p, 0, none⟩), .pointer (some ⟨q, 0, none⟩)] (.panicking ({ v := .iface u pv, recovered := false } :: older)) w fun e u' w' =>
      e = .returned (.tuple #[]) ∧ u' = .panicking ({ v := .iface u pv, recovered := true } :: older) ∧ w' = (w.setCell ⟨p, 0, none⟩ (.int .i64 at')).setCell ⟨q, 0, none⟩ (.int .i64 20) := by
  refine callsD_of_wpS Try.func66 rfl fun c₀ cs hu => ?_
  apply wpS_seq
  apply wpS_region
  simp [wpOpsS, go_sem, recoverD, hu, Try.ntmps66, Exit.thenS]
  refine wpS_cond (t := true) (by simp [Act.eval, Array.replicate]) ?_
  simp only [if_true]
  apply wpS_region
  simp [wpOpsS, go_sem, hc, hz, hd, hz2, hr, ha, bodyPostS, results, Try.results66]
theorem catch_r_idle (rv p q : Nat) (w : World) :
    CallsD Try.prog 66 #[.pointer (some ⟨rv, 0, none⟩), .pointer (some ⟨p, 0, none⟩), .pointer (some ⟨q, 0, none⟩)] .returning w fun e u' w' => e = .returned (.tuple #[]) ∧ u' = .returning ∧ w' = w := by
  refine callsD_of_wpS Try.func66 rfl fun c₀ cs hu => ?_
  apply wpS_seq
  apply wpS_region
  simp [wpOpsS, go_sem, recoverD, hu, Try.ntmps66, Exit.thenS]
  refine wpS_cond (t := false) (by simp [Act.eval, Array.replicate]) ?_
  simp only [Bool.false_eq_true, if_false]
  refine wpS_of_wp (wp_skip ?_)
  cases c₀
  simp_all [bodyPostS, results, Try.results66]
def RClo {α : Type} (L base : Nat) (ao : Option Addr) (n cap : Nat) (bs : List UInt8) (w1 : World) (r : Res α) (Good : α → World → Prop) (e : Ending) (w' : World) : Prop :=
  (Below base w1 w' ∧ ∀ k, L ≤ k → k ≠ L + 1 + 1 → k < w1.heap.size → w'.heap[k]? = w1.heap[k]?) ∧ match r with
  | .error k => e = refused ∧ RSt (L + 1 + 1) ao n cap bs k w'
  | .ok (x, k) => (∃ h, e = .returned h) ∧ Good x w' ∧ RSt (L + 1 + 1) ao n cap bs k w'
def RDone {α : Type} (base : Nat) (r : Res α) (Good : α → World → Prop) (w : World) (e : Ending) (w' : World) : Prop := Below base w w' ∧ match r with
  | .error k => e = .returned (.tuple #[.int .i64 (k : Nat), .int .i64 20])
  | .ok (x, _) => e = .returned (.tuple #[.int .i64 0, .int .i64 0]) ∧ Good x w'
set_option maxRecDepth 100000 in
set_option maxHeartbeats 3200000 in
theorem read_any {α : Type} (c : Codec α) (Good : α → World → Prop) (K base b off n cap : Nat) (cs : Array Value) (bs : List UInt8) (w : World) (hE : ∀ args w, (callFunc K args).run Try.prog w = .ok (.enter K args) w)
    (hlen : bs.length = n) (hsrc : From w (some ⟨b, off, none⟩) bs) (hbw : b < w.heap.size) (hsm : n ≤ 140737488355328) (hrm : n ≤ cap) (hbase : base ≤ w.heap.size)
    (hG : ∀ x w' w'', (∀ k, k < w'.heap.size → (k < w.heap.size ∨ w.heap.size + 4 ≤ k) → w''.heap[k]? = w'.heap[k]?) → Good x w' → Good x w'')
    (hK : ∀ w1, RSt (w.heap.size + 1 + 1) (some ⟨b, off, none⟩) n cap bs 0 w1 → Below w.heap.size w w1 → w.heap.size + 4 ≤ w1.heap.size → Calls Try.prog K (#[RH (w.heap.size + 1 + 1)] ++ cs) w1 (RClo w.heap.size base (some ⟨b, off, none⟩) n cap bs w1 (c.rd bs) Good)) :
    Calls Try.prog 30 #[.slice (some ⟨b, off, none⟩) n cap, .func (.func K) #[] cs] w (RDone base (whole c bs) Good w) := by
  have hmf : ∀ (fn : Fn) (first cap : Array Value) (w : World), (Instr.makeFunc fn first cap).run Try.prog w = .ok (.func fn first cap) w := fun _ _ _ _ => rfl
  have hb1 : Below w.heap.size w ((((w.alloc (.cells #[.int .i64 0] 3)).alloc (.cells #[.int .i64 0] 32)).alloc (.cells #[.slice (some ⟨b, off, none⟩) n cap, .int .i64 0] 120)).alloc (.cells #[.pointer (some ⟨w.heap.size + 1 + 1, 0, none⟩)] 118)) := by go_grown
  have n0 : ((((w.alloc (.cells #[.int .i64 0] 3)).alloc (.cells #[.int .i64 0] 32)).alloc (.cells #[.slice (some ⟨b, off, none⟩) n cap, .int .i64 0] 120)).alloc (.cells #[.pointer (some ⟨w.heap.size + 1 + 1, 0, none⟩)] 118)).heap[w.heap.size]? = some (.cells #[.int .i64 0] 3 (0, 0)) := by
    rw [Below.heap_alloc _ _ _ (by first | (simp; done) | (simp; omega)), Below.heap_alloc _ _ _ (by first | (simp; done) | (simp; omega)), Below.heap_alloc _ _ _ (by simp)]; exact heap_alloc_new w _
  have n1 : ((((w.alloc (.cells #[.int .i64 0] 3)).alloc (.cells #[.int .i64 0] 32)).alloc (.cells #[.slice (some ⟨b, off, none⟩) n cap, .int .i64 0] 120)).alloc (.cells #[.pointer (some ⟨w.heap.size + 1 + 1, 0, none⟩)] 118)).heap[w.heap.size + 1]? = some (.cells #[.int .i64 0] 32 (0, 0)) := by
    rw [Below.heap_alloc _ _ _ (by first | (simp; done) | (simp; omega)), Below.heap_alloc _ _ _ (by simp)]; simpa using heap_alloc_new (w.alloc (.cells #[.int .i64 0] 3)) (.cells #[.int .i64 0] 32)
  have n2 : ((((w.alloc (.cells #[.int .i64 0] 3)).alloc (.cells #[.int .i64 0] 32)).alloc (.cells #[.slice (some ⟨b, off, none⟩) n cap, .int .i64 0] 120)).alloc (.cells #[.pointer (some ⟨w.heap.size + 1 + 1, 0, none⟩)] 118)).heap[w.heap.size + 1 + 1]? = some (.cells #[.slice (some ⟨b, off, none⟩) n cap, .int .i64 ((0 : Nat) : Int)] 120 (0, 0)) := by
    rw [Below.heap_alloc _ _ _ (by simp)]; simpa using heap_alloc_new ((w.alloc (.cells #[.int .i64 0] 3)).alloc (.cells #[.int .i64 0] 32)) (.cells #[.slice (some ⟨b, off, none⟩) n cap, .int .i64 0] 120)
  have n3 : ((((w.alloc (.cells #[.int .i64 0] 3)).alloc (.cells #[.int .i64 0] 32)).alloc (.cells #[.slice (some ⟨b, off, none⟩) n cap, .int .i64 0] 120)).alloc (.cells #[.pointer (some ⟨w.heap.size + 1 + 1, 0, none⟩)] 118)).heap[w.heap.size + 1 + 1 + 1]? = some (.cells #[.pointer (some ⟨w.heap.size + 1 + 1, 0, none⟩)] 118 (0, 0)) := by
    simpa using heap_alloc_new (((w.alloc (.cells #[.int .i64 0] 3)).alloc (.cells #[.int .i64 0] 32)).alloc (.cells #[.slice (some ⟨b, off, none⟩) n cap, .int .i64 0] 120)) (.cells #[.pointer (some ⟨w.heap.size + 1 + 1, 0, none⟩)] 118)
  have hz1 : w.heap.size + 4 ≤ ((((w.alloc (.cells #[.int .i64 0] 3)).alloc (.cells #[.int .i64 0] 32)).alloc (.cells #[.slice (some ⟨b, off, none⟩) n cap, .int .i64 0] 120)).alloc (.cells #[.pointer (some ⟨w.heap.size + 1 + 1, 0, none⟩)] 118)).heap.size := by simp
  have hw := hK _ ⟨n2, hlen, hsrc.keep (fun b' o' e => by cases e; exact hb1.block _ hbw), (fun b' o' e => by cases e; omega), by omega, hsm, hrm⟩ hb1 hz1
  go_enter_defers Try.func30, Try.ntmps30
  go_wp2_with fail
  generalize (((w.alloc (.cells #[.int .i64 0] 3)).alloc (.cells #[.int .i64 0] 32)).alloc (.cells #[.slice (some ⟨b, off, none⟩) n cap, .int .i64 0] 120)).alloc (.cells #[.pointer (some ⟨w.heap.size + 1 + 1, 0, none⟩)] 118) = w1 at *
  generalize hL : w.heap.size = L at *
  unfold RH at hw
  refine hw.mono ?_
  intro e w2 h
  obtain ⟨⟨hbl, hblk⟩, h⟩ := h
  have m0 : w2.heap[L]? = some (.cells #[.int .i64 0] 3 (0, 0)) := (hblk L (by omega) (by omega) (by omega)).trans n0
  have m1 : w2.heap[L + 1]? = some (.cells #[.int .i64 0] 32 (0, 0)) := (hblk (L + 1) (by omega) (by omega) (by omega)).trans n1
  have m3 : w2.heap[L + 1 + 1 + 1]? = some (.cells #[.pointer (some ⟨L + 1 + 1, 0, none⟩)] 118 (0, 0)) := (hblk (L + 1 + 1 + 1) (by omega) (by omega) (by omega)).trans n3
  have hb2 : Below base w w2 := (hb1.mono hbase).trans hbl
  have hz2 : L + 4 ≤ w2.heap.size := by have := hbl.size; omega
  clear hw n0 n1 n2 n3 hbl hblk hb1 hK
  have c0 : w2.cell? ⟨L, 0, none⟩ = some (.int .i64 0) := by rw [cell_of_row _ _ 0 _ _ _ m0]; rfl
  have c1 : w2.cell? ⟨L + 1, 0, none⟩ = some (.int .i64 0) := by rw [cell_of_row _ _ 0 _ _ _ m1]; rfl
  have c3 : w2.cell? ⟨L + 1 + 1 + 1, 0, none⟩ = some (.pointer (some ⟨L + 1 + 1, 0, none⟩)) := by rw [cell_of_row _ _ 0 _ _ _ m3]; rfl
  have z0 : w2.frozen? ⟨L, 0, none⟩ = false := by simp [World.frozen?, m0]
  have z1 : w2.frozen? ⟨L + 1, 0, none⟩ = false := by simp [World.frozen?, m1]
  cases hr : c.rd bs with
  | error k =>
    rw [hr] at h
    obtain ⟨rfl, hS2⟩ := h
    have hwh : whole c bs = .error k := by simp only [whole, hr]
    show bodyPostD _ _ _ _ _ _
    have hb3 : Below base w ((w2.setCell ⟨L, 0, none⟩ (.int .i64 (k : Int))).setCell ⟨L + 1, 0, none⟩ (.int .i64 20)) := (hb2.setCell hbase _).setCell (by simp; omega) _
    obtain ⟨d0, d1⟩ := two_cells (x := .int .i64 (k : Int)) (y := .int .i64 20) m0 m1
    refine leaves_cons (f := 66) (args := #[.pointer (some ⟨L + 1 + 1 + 1, 0, none⟩), .pointer (some ⟨L, 0, none⟩), .pointer (some ⟨L + 1, 0, none⟩)]) (by simp) (by simp [go_sem]) ?_
    refine (catch_r_panicking (L + 1 + 1 + 1) L (L + 1) (L + 1 + 1) _ _ _ _ 86 _ [] _ c3 hS2.cell1 hS2.cell0 c0 c1 z0 z1 (by omega)).mono ?_
    rintro e u' w3 ⟨rfl, rfl, hw3⟩
    rw [← hw3] at d0 d1 hb3
    clear hw3
    simp [Leaves, settle, results, Try.results30, go_sem, d0, d1]
    exact ⟨hb3, by rw [hwh]⟩
  | ok v =>
    obtain ⟨x, k⟩ := v
    rw [hr] at h
    obtain ⟨⟨hh, rfl⟩, hGx, hS2⟩ := h
    have a1 := hS2.cell1
    have a0 := hS2.cell0
    have hle := hS2.le
    by_cases hk : k < n
    · have hwh : whole c bs = .error k := by simp only [whole, hr, hlen]; rw [if_pos hk]
      go_wp2_with fail
      refine wp_region_any (by kernel_rfl) ?_
      change wpAny _ _ _ _ _ _ _ (World.drew _)
      refine wpAny_ready (rs := [0, 1]) (by kernel_rfl) (by simp) ?_
      refine AllReady.cons rfl (fun KK hKK => ?_) ?_
      · go_simp
        refine hKK _ _ ?_
        clear hKK
        refine wpAny_ready (rs := [1]) (by kernel_rfl) (by simp) ?_
        refine AllReady.cons rfl (fun KK hKK => ?_) ?_
        · go_simp
          refine hKK _ _ ?_
          clear hKK
          refine wpAny_ready (rs := [2]) (by kernel_rfl) (by simp) ?_
          refine AllReady.cons rfl (fun KK hKK => ?_) ?_
          · go_simp
            refine hKK _ _ ?_
            clear hKK
            refine wpAny_ready (rs := [3]) (by kernel_rfl) (by simp) ?_
            refine AllReady.cons rfl (fun KK hKK => ?_) ?_
            · go_simp
              refine hKK _ _ ?_
              clear hKK
              refine wpAny_ready (rs := [4]) (by kernel_rfl) (by simp) ?_
              refine AllReady.cons rfl (fun KK hKK => ?_) ?_
              · go_simp
                refine hKK _ _ ?_
                clear hKK
                refine wpAny_ready (rs := [5]) (by kernel_rfl) (by simp) ?_
                refine AllReady.cons rfl (fun KK hKK => ?_) ?_
                · go_simp
                  refine (giveUp_any (L + 1 + 1) _ n cap bs k k _ hS2.drew hle).mono ?_
                  rintro e w3 ⟨rfl, hS3, hst3⟩
                  have hst := hst3.ofDrew
                  have p0 : w3.heap[L]? = some (.cells #[.int .i64 0] 3 (0, 0)) := (hst.block L (by omega) (by omega) (by omega)).trans m0
                  have p1 : w3.heap[L + 1]? = some (.cells #[.int .i64 0] 32 (0, 0)) := (hst.block (L + 1) (by omega) (by omega) (by omega)).trans m1
                  have p3 : w3.heap[L + 1 + 1 + 1]? = some (.cells #[.pointer (some ⟨L + 1 + 1, 0, none⟩)] 118 (0, 0)) := (hst.block (L + 1 + 1 + 1) (by omega) (by omega) (by omega)).trans m3
                  have f0 : w3.cell? ⟨L, 0, none⟩ = some (.int .i64 0) := by rw [cell_of_row _ _ 0 _ _ _ p0]; rfl
                  have f1 : w3.cell? ⟨L + 1, 0, none⟩ = some (.int .i64 0) := by rw [cell_of_row _ _ 0 _ _ _ p1]; rfl
                  have f3 : w3.cell? ⟨L + 1 + 1 + 1, 0, none⟩ = some (.pointer (some ⟨L + 1 + 1, 0, none⟩)) := by rw [cell_of_row _ _ 0 _ _ _ p3]; rfl
                  have y0 : w3.frozen? ⟨L, 0, none⟩ = false := by simp [World.frozen?, p0]
                  have y1 : w3.frozen? ⟨L + 1, 0, none⟩ = false := by simp [World.frozen?, p1]
                  have hbw3 : Below base w w3 := hb2.trans ⟨hst.os, hst.tape, hst.output, hst.size, fun i hi => hst.block i (by omega) (by omega) (by omega)⟩
                  have hb3 : Below base w ((w3.setCell ⟨L, 0, none⟩ (.int .i64 (k : Int))).setCell ⟨L + 1, 0, none⟩ (.int .i64 20)) := (hbw3.setCell hbase _).setCell (by simp; omega) _
                  obtain ⟨d0, d1⟩ := two_cells (x := .int .i64 (k : Int)) (y := .int .i64 20) p0 p1
                  show bodyPostD _ _ _ _ _ _
                  refine leaves_cons (f := 66) (args := #[.pointer (some ⟨L + 1 + 1 + 1, 0, none⟩), .pointer (some ⟨L, 0, none⟩), .pointer (some ⟨L + 1, 0, none⟩)]) (by simp) (by simp [go_sem]) ?_
                  refine (catch_r_panicking (L + 1 + 1 + 1) L (L + 1) (L + 1 + 1) _ _ _ _ 86 _ [] _ f3 hS3.cell1 hS3.cell0 f0 f1 y0 y1 (by omega)).mono ?_
                  rintro e u' w4 ⟨rfl, rfl, hw4⟩
                  rw [← hw4] at d0 d1 hb3
                  clear hw4
                  simp [Leaves, settle, results, Try.results30, go_sem, d0, d1]
                  exact ⟨hb3, rfl⟩
                exact AllReady.nil
              exact AllReady.nil
            exact AllReady.nil
          exact AllReady.nil
        exact AllReady.nil
      refine AllReady.cons rfl (fun KK hKK => ?_) ?_
      · go_simp
        refine hKK _ _ ?_
        clear hKK
        refine wpAny_ready (rs := [0, 2]) (by kernel_rfl) (by simp) ?_
        refine AllReady.cons rfl (fun KK hKK => ?_) ?_
        · go_simp
          refine hKK _ _ ?_
          clear hKK
          refine wpAny_ready (rs := [2]) (by kernel_rfl) (by simp) ?_
          refine AllReady.cons rfl (fun KK hKK => ?_) ?_
          · go_simp
            refine hKK _ _ ?_
            clear hKK
            refine wpAny_ready (rs := [3]) (by kernel_rfl) (by simp) ?_
            refine AllReady.cons rfl (fun KK hKK => ?_) ?_
            · go_simp
              refine hKK _ _ ?_
              clear hKK
              refine wpAny_ready (rs := [4]) (by kernel_rfl) (by simp) ?_
              refine AllReady.cons rfl (fun KK hKK => ?_) ?_
              · go_simp
                refine hKK _ _ ?_
                clear hKK
                refine wpAny_ready (rs := [5]) (by kernel_rfl) (by simp) ?_
                refine AllReady.cons rfl (fun KK hKK => ?_) ?_
                · go_simp
                  refine (giveUp_any (L + 1 + 1) _ n cap bs k k _ hS2.drew hle).mono ?_
                  rintro e w3 ⟨rfl, hS3, hst3⟩
                  have hst := hst3.ofDrew
                  have p0 : w3.heap[L]? = some (.cells #[.int .i64 0] 3 (0, 0)) := (hst.block L (by omega) (by omega) (by omega)).trans m0
                  have p1 : w3.heap[L + 1]? = some (.cells #[.int .i64 0] 32 (0, 0)) := (hst.block (L + 1) (by omega) (by omega) (by omega)).trans m1
                  have p3 : w3.heap[L + 1 + 1 + 1]? = some (.cells #[.pointer (some ⟨L + 1 + 1, 0, none⟩)] 118 (0, 0)) := (hst.block (L + 1 + 1 + 1) (by omega) (by omega) (by omega)).trans m3
                  have f0 : w3.cell? ⟨L, 0, none⟩ = some (.int .i64 0) := by rw [cell_of_row _ _ 0 _ _ _ p0]; rfl
                  have f1 : w3.cell? ⟨L + 1, 0, none⟩ = some (.int .i64 0) := by rw [cell_of_row _ _ 0 _ _ _ p1]; rfl
                  have f3 : w3.cell? ⟨L + 1 + 1 + 1, 0, none⟩ = some (.pointer (some ⟨L + 1 + 1, 0, none⟩)) := by rw [cell_of_row _ _ 0 _ _ _ p3]; rfl
                  have y0 : w3.frozen? ⟨L, 0, none⟩ = false := by simp [World.frozen?, p0]
                  have y1 : w3.frozen? ⟨L + 1, 0, none⟩ = false := by simp [World.frozen?, p1]
                  have hbw3 : Below base w w3 := hb2.trans ⟨hst.os, hst.tape, hst.output, hst.size, fun i hi => hst.block i (by omega) (by omega) (by omega)⟩
                  have hb3 : Below base w ((w3.setCell ⟨L, 0, none⟩ (.int .i64 (k : Int))).setCell ⟨L + 1, 0, none⟩ (.int .i64 20)) := (hbw3.setCell hbase _).setCell (by simp; omega) _
                  obtain ⟨d0, d1⟩ := two_cells (x := .int .i64 (k : Int)) (y := .int .i64 20) p0 p1
                  show bodyPostD _ _ _ _ _ _
                  refine leaves_cons (f := 66) (args := #[.pointer (some ⟨L + 1 + 1 + 1, 0, none⟩), .pointer (some ⟨L, 0, none⟩), .pointer (some ⟨L + 1, 0, none⟩)]) (by simp) (by simp [go_sem]) ?_
                  refine (catch_r_panicking (L + 1 + 1 + 1) L (L + 1) (L + 1 + 1) _ _ _ _ 86 _ [] _ f3 hS3.cell1 hS3.cell0 f0 f1 y0 y1 (by omega)).mono ?_
                  rintro e u' w4 ⟨rfl, rfl, hw4⟩
                  rw [← hw4] at d0 d1 hb3
                  clear hw4
                  simp [Leaves, settle, results, Try.results30, go_sem, d0, d1]
                  exact ⟨hb3, rfl⟩
                exact AllReady.nil
              exact AllReady.nil
            exact AllReady.nil
          exact AllReady.nil
        refine AllReady.cons rfl (fun KK hKK => ?_) ?_
        · go_simp
          refine hKK _ _ ?_
          clear hKK
          refine wpAny_ready (rs := [0, 3]) (by kernel_rfl) (by simp) ?_
          refine AllReady.cons rfl (fun KK hKK => ?_) ?_
          · go_simp
            refine hKK _ _ ?_
            clear hKK
            refine wpAny_ready (rs := [3]) (by kernel_rfl) (by simp) ?_
            refine AllReady.cons rfl (fun KK hKK => ?_) ?_
            · go_simp
              refine hKK _ _ ?_
              clear hKK
              refine wpAny_ready (rs := [4]) (by kernel_rfl) (by simp) ?_
              refine AllReady.cons rfl (fun KK hKK => ?_) ?_
              · go_simp
                refine hKK _ _ ?_
                clear hKK
                refine wpAny_ready (rs := [5]) (by kernel_rfl) (by simp) ?_
                refine AllReady.cons rfl (fun KK hKK => ?_) ?_
                · go_simp
                  refine (giveUp_any (L + 1 + 1) _ n cap bs k k _ hS2.drew hle).mono ?_
                  rintro e w3 ⟨rfl, hS3, hst3⟩
                  have hst := hst3.ofDrew
                  have p0 : w3.heap[L]? = some (.cells #[.int .i64 0] 3 (0, 0)) := (hst.block L (by omega) (by omega) (by omega)).trans m0
                  have p1 : w3.heap[L + 1]? = some (.cells #[.int .i64 0] 32 (0, 0)) := (hst.block (L + 1) (by omega) (by omega) (by omega)).trans m1
                  have p3 : w3.heap[L + 1 + 1 + 1]? = some (.cells #[.pointer (some ⟨L + 1 + 1, 0, none⟩)] 118 (0, 0)) := (hst.block (L + 1 + 1 + 1) (by omega) (by omega) (by omega)).trans m3
                  have f0 : w3.cell? ⟨L, 0, none⟩ = some (.int .i64 0) := by rw [cell_of_row _ _ 0 _ _ _ p0]; rfl
                  have f1 : w3.cell? ⟨L + 1, 0, none⟩ = some (.int .i64 0) := by rw [cell_of_row _ _ 0 _ _ _ p1]; rfl
                  have f3 : w3.cell? ⟨L + 1 + 1 + 1, 0, none⟩ = some (.pointer (some ⟨L + 1 + 1, 0, none⟩)) := by rw [cell_of_row _ _ 0 _ _ _ p3]; rfl
                  have y0 : w3.frozen? ⟨L, 0, none⟩ = false := by simp [World.frozen?, p0]
                  have y1 : w3.frozen? ⟨L + 1, 0, none⟩ = false := by simp [World.frozen?, p1]
                  have hbw3 : Below base w w3 := hb2.trans ⟨hst.os, hst.tape, hst.output, hst.size, fun i hi => hst.block i (by omega) (by omega) (by omega)⟩
                  have hb3 : Below base w ((w3.setCell ⟨L, 0, none⟩ (.int .i64 (k : Int))).setCell ⟨L + 1, 0, none⟩ (.int .i64 20)) := (hbw3.setCell hbase _).setCell (by simp; omega) _
                  obtain ⟨d0, d1⟩ := two_cells (x := .int .i64 (k : Int)) (y := .int .i64 20) p0 p1
                  show bodyPostD _ _ _ _ _ _
                  refine leaves_cons (f := 66) (args := #[.pointer (some ⟨L + 1 + 1 + 1, 0, none⟩), .pointer (some ⟨L, 0, none⟩), .pointer (some ⟨L + 1, 0, none⟩)]) (by simp) (by simp [go_sem]) ?_
                  refine (catch_r_panicking (L + 1 + 1 + 1) L (L + 1) (L + 1 + 1) _ _ _ _ 86 _ [] _ f3 hS3.cell1 hS3.cell0 f0 f1 y0 y1 (by omega)).mono ?_
                  rintro e u' w4 ⟨rfl, rfl, hw4⟩
                  rw [← hw4] at d0 d1 hb3
                  clear hw4
                  simp [Leaves, settle, results, Try.results30, go_sem, d0, d1]
                  exact ⟨hb3, rfl⟩
                exact AllReady.nil
              exact AllReady.nil
            exact AllReady.nil
          refine AllReady.cons rfl (fun KK hKK => ?_) ?_
          · go_simp
            refine hKK _ _ ?_
            clear hKK
            refine wpAny_ready (rs := [0, 4]) (by kernel_rfl) (by simp) ?_
            refine AllReady.cons rfl (fun KK hKK => ?_) ?_
            · go_simp
              refine hKK _ _ ?_
              clear hKK
              refine wpAny_ready (rs := [4]) (by kernel_rfl) (by simp) ?_
              refine AllReady.cons rfl (fun KK hKK => ?_) ?_
              · go_simp
                refine hKK _ _ ?_
                clear hKK
                refine wpAny_ready (rs := [5]) (by kernel_rfl) (by simp) ?_
                refine AllReady.cons rfl (fun KK hKK => ?_) ?_
                · go_simp
                  refine (giveUp_any (L + 1 + 1) _ n cap bs k k _ hS2.drew hle).mono ?_
                  rintro e w3 ⟨rfl, hS3, hst3⟩
                  have hst := hst3.ofDrew
                  have p0 : w3.heap[L]? = some (.cells #[.int .i64 0] 3 (0, 0)) := (hst.block L (by omega) (by omega) (by omega)).trans m0
                  have p1 : w3.heap[L + 1]? = some (.cells #[.int .i64 0] 32 (0, 0)) := (hst.block (L + 1) (by omega) (by omega) (by omega)).trans m1
                  have p3 : w3.heap[L + 1 + 1 + 1]? = some (.cells #[.pointer (some ⟨L + 1 + 1, 0, none⟩)] 118 (0, 0)) := (hst.block (L + 1 + 1 + 1) (by omega) (by omega) (by omega)).trans m3
                  have f0 : w3.cell? ⟨L, 0, none⟩ = some (.int .i64 0) := by rw [cell_of_row _ _ 0 _ _ _ p0]; rfl
                  have f1 : w3.cell? ⟨L + 1, 0, none⟩ = some (.int .i64 0) := by rw [cell_of_row _ _ 0 _ _ _ p1]; rfl
                  have f3 : w3.cell? ⟨L + 1 + 1 + 1, 0, none⟩ = some (.pointer (some ⟨L + 1 + 1, 0, none⟩)) := by rw [cell_of_row _ _ 0 _ _ _ p3]; rfl
                  have y0 : w3.frozen? ⟨L, 0, none⟩ = false := by simp [World.frozen?, p0]
                  have y1 : w3.frozen? ⟨L + 1, 0, none⟩ = false := by simp [World.frozen?, p1]
                  have hbw3 : Below base w w3 := hb2.trans ⟨hst.os, hst.tape, hst.output, hst.size, fun i hi => hst.block i (by omega) (by omega) (by omega)⟩
                  have hb3 : Below base w ((w3.setCell ⟨L, 0, none⟩ (.int .i64 (k : Int))).setCell ⟨L + 1, 0, none⟩ (.int .i64 20)) := (hbw3.setCell hbase _).setCell (by simp; omega) _
                  obtain ⟨d0, d1⟩ := two_cells (x := .int .i64 (k : Int)) (y := .int .i64 20) p0 p1
                  show bodyPostD _ _ _ _ _ _
                  refine leaves_cons (f := 66) (args := #[.pointer (some ⟨L + 1 + 1 + 1, 0, none⟩), .pointer (some ⟨L, 0, none⟩), .pointer (some ⟨L + 1, 0, none⟩)]) (by simp) (by simp [go_sem]) ?_
                  refine (catch_r_panicking (L + 1 + 1 + 1) L (L + 1) (L + 1 + 1) _ _ _ _ 86 _ [] _ f3 hS3.cell1 hS3.cell0 f0 f1 y0 y1 (by omega)).mono ?_
                  rintro e u' w4 ⟨rfl, rfl, hw4⟩
                  rw [← hw4] at d0 d1 hb3
                  clear hw4
                  simp [Leaves, settle, results, Try.results30, go_sem, d0, d1]
                  exact ⟨hb3, rfl⟩
                exact AllReady.nil
              exact AllReady.nil
            refine AllReady.cons rfl (fun KK hKK => ?_) ?_
            · go_simp
              refine hKK _ _ ?_
              clear hKK
              refine wpAny_ready (rs := [0]) (by kernel_rfl) (by simp) ?_
              refine AllReady.cons rfl (fun KK hKK => ?_) ?_
              · go_simp
                refine hKK _ _ ?_
                clear hKK
                refine wpAny_ready (rs := [5]) (by kernel_rfl) (by simp) ?_
                refine AllReady.cons rfl (fun KK hKK => ?_) ?_
                · go_simp
                  refine (giveUp_any (L + 1 + 1) _ n cap bs k k _ hS2.drew hle).mono ?_
                  rintro e w3 ⟨rfl, hS3, hst3⟩
                  have hst := hst3.ofDrew
                  have p0 : w3.heap[L]? = some (.cells #[.int .i64 0] 3 (0, 0)) := (hst.block L (by omega) (by omega) (by omega)).trans m0
                  have p1 : w3.heap[L + 1]? = some (.cells #[.int .i64 0] 32 (0, 0)) := (hst.block (L + 1) (by omega) (by omega) (by omega)).trans m1
                  have p3 : w3.heap[L + 1 + 1 + 1]? = some (.cells #[.pointer (some ⟨L + 1 + 1, 0, none⟩)] 118 (0, 0)) := (hst.block (L + 1 + 1 + 1) (by omega) (by omega) (by omega)).trans m3
                  have f0 : w3.cell? ⟨L, 0, none⟩ = some (.int .i64 0) := by rw [cell_of_row _ _ 0 _ _ _ p0]; rfl
                  have f1 : w3.cell? ⟨L + 1, 0, none⟩ = some (.int .i64 0) := by rw [cell_of_row _ _ 0 _ _ _ p1]; rfl
                  have f3 : w3.cell? ⟨L + 1 + 1 + 1, 0, none⟩ = some (.pointer (some ⟨L + 1 + 1, 0, none⟩)) := by rw [cell_of_row _ _ 0 _ _ _ p3]; rfl
                  have y0 : w3.frozen? ⟨L, 0, none⟩ = false := by simp [World.frozen?, p0]
                  have y1 : w3.frozen? ⟨L + 1, 0, none⟩ = false := by simp [World.frozen?, p1]
                  have hbw3 : Below base w w3 := hb2.trans ⟨hst.os, hst.tape, hst.output, hst.size, fun i hi => hst.block i (by omega) (by omega) (by omega)⟩
                  have hb3 : Below base w ((w3.setCell ⟨L, 0, none⟩ (.int .i64 (k : Int))).setCell ⟨L + 1, 0, none⟩ (.int .i64 20)) := (hbw3.setCell hbase _).setCell (by simp; omega) _
                  obtain ⟨d0, d1⟩ := two_cells (x := .int .i64 (k : Int)) (y := .int .i64 20) p0 p1
                  show bodyPostD _ _ _ _ _ _
                  refine leaves_cons (f := 66) (args := #[.pointer (some ⟨L + 1 + 1 + 1, 0, none⟩), .pointer (some ⟨L, 0, none⟩), .pointer (some ⟨L + 1, 0, none⟩)]) (by simp) (by simp [go_sem]) ?_
                  refine (catch_r_panicking (L + 1 + 1 + 1) L (L + 1) (L + 1 + 1) _ _ _ _ 86 _ [] _ f3 hS3.cell1 hS3.cell0 f0 f1 y0 y1 (by omega)).mono ?_
                  rintro e u' w4 ⟨rfl, rfl, hw4⟩
                  rw [← hw4] at d0 d1 hb3
                  clear hw4
                  simp [Leaves, settle, results, Try.results30, go_sem, d0, d1]
                  exact ⟨hb3, rfl⟩
                exact AllReady.nil
              exact AllReady.nil
            exact AllReady.nil
          exact AllReady.nil
        exact AllReady.nil
      exact AllReady.nil
    · have hwh : whole c bs = .ok (x, 0) := by simp only [whole, hr, hlen]; rw [if_neg hk]
      have hb3 : Below base w ((w2.setCell ⟨L, 0, none⟩ (.int .i64 0)).setCell ⟨L + 1, 0, none⟩ (.int .i64 0)) := (hb2.setCell hbase _).setCell (by simp; omega) _
      obtain ⟨d0, d1⟩ := two_cells (x := .int .i64 0) (y := .int .i64 0) m0 m1
      have hG3 : Good x ((w2.setCell ⟨L, 0, none⟩ (.int .i64 0)).setCell ⟨L + 1, 0, none⟩ (.int .i64 0)) := hG x w2 _ (fun i _ hi => by
        rw [Below.heap_setCell _ _ _ _ (by simp; omega), Below.heap_setCell _ _ _ _ (by simp; omega)]) hGx
      go_wp2
      generalize (w2.setCell ⟨L, 0, none⟩ (.int .i64 0)).setCell ⟨L + 1, 0, none⟩ (.int .i64 0) = w3 at *
      refine leaves_cons (f := 66) (args := #[.pointer (some ⟨L + 1 + 1 + 1, 0, none⟩), .pointer (some ⟨L, 0, none⟩), .pointer (some ⟨L + 1, 0, none⟩)]) (by simp) (by simp [go_sem]) ?_
      refine (catch_r_idle (L + 1 + 1 + 1) L (L + 1) w3).mono ?_
      rintro e u' w4 ⟨rfl, rfl, hw4⟩
      subst w4
      simp [Leaves, settle, results, Try.results30, go_sem, d0, d1]
      first | exact ⟨hb3, rfl, hG3⟩ | exact ⟨hb3, by rw [hwh]; exact ⟨rfl, hG3⟩⟩
end Go.Proofs.Ytfgnlfemckdfnaa
