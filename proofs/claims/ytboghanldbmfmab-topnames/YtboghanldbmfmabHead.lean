import Derived.Test.YtboghanldbmfmabTabs
import Derived.Test.YtboghanldbmfmabTab1
import Derived.Test.YtboghanldbmfmabTab2
import Derived.Test.YtboghanldbmfmabNamed
import Derived.Test.YtboghanldbmfmabRight1
import Derived.Test.YtboghanldbmfmabRight2
import Derived.Test.YtboghanldbmfmabRight3
import Derived.Test.YtboghanldbmfmabRight4
namespace Go.Proofs.Ytboghanldbmfmab
open Go.RowKit

/-- What the first call of each pair lays: a new row of pairs. -/
theorem named_of (l : List Int) (w : World) (n : Nat) (hn : l.length = n) (h0 : 0 < n) (h1 : n ≤ 1000) :
    Calls Try.prog 4 #[.slice (some ⟨w.heap.size, 0, none⟩) n n] (w.alloc (.cells (pairs l).toArray 29)) fun e w' => e = .returned (.bool true) ∧ Below w.heap.size w w' := by
  have hc : ∀ j, (w.alloc (.cells (pairs l).toArray 29)).cell? ⟨w.heap.size, j, none⟩ = (pairs l)[j]? := by
    intro j
    rw [cell_of_row (w.alloc (.cells (pairs l).toArray 29)) w.heap.size j _ 29 (0, 0) (heap_alloc_new w _)]
    simp
  refine (named_any w.heap.size n n l _ h1 h0 (fun k hk => ?_) (fun k hk => ?_)).mono ?_
  · rw [hc]; exact pairs_get0 l k (by omega)
  · rw [hc]; exact pairs_get1 l k (by omega)
  · rintro e w' ⟨rfl, q, rfl⟩
    exact ⟨rfl, below_drewN ((Below.refl _ _).alloc (Nat.le_refl _) _) q⟩

def cfg : List Value := [.int .i64 16, .int .i64 16, .int .i64 1000, .int .i64 1000, .int .i64 32, .int .i64 16, .int .i64 4, .int .i64 16, .int .i64 64, .int .i64 1024]
def cfgs (k : Nat) : List Value := (List.replicate k cfg).flatten

theorem cfgs_len (k : Nat) : (cfgs k).length = k * 10 := by
  induction k with
  | zero => rfl
  | succ k ih => simp [cfgs, List.replicate_succ, cfg] at ih ⊢; omega
theorem cfgs_succ (k : Nat) : cfgs (k + 1) = cfgs k ++ cfg := by
  unfold cfgs
  rw [List.replicate_succ']
  simp

theorem Try.info26 : (Try.prog.info? 26).map (fun i => (i.zero, i.size, i.bytes)) = some (some (.agg #[.int .i64 0, .int .i64 0, .int .i64 0, .int .i64 0, .int .i64 0, .int .i64 0, .int .i64 0, .int .i64 0, .int .i64 0, .int .i64 0]), 10, 80) := by kernel_rfl

theorem new_cells (w : World) (c : Array Value) (t : TypeId) (l : List Value) (h : c.toList = l) (j : Nat) (u : Value) (hu : l[j]? = some u) :
    (w.alloc (.cells c t)).cell? ((⟨w.heap.size, 0, none⟩ : Addr).add j) = some u := by
  have hadd : (⟨w.heap.size, 0, none⟩ : Addr).add j = ⟨w.heap.size, j, none⟩ := by unfold Addr.add; split <;> simp_all
  rw [hadd, cell_of_row _ w.heap.size j c t (0, 0) (heap_alloc_new w _), ← hu, ← h]
  simp

/-- Block g is a row whose first cells are xs. -/
def rowIs (w : World) (g : Nat) (xs : List Value) : Prop := ∃ cur, w.heap[g]? = some (.cells cur 26 (0, 0)) ∧ cur.toList.take xs.length = xs

theorem rowIs_set {w : World} {g : Nat} {xs : List Value} (h : rowIs w g xs) (off : Nat) (v : Value) : rowIs (w.setCell ⟨g, off, none⟩ v) g (xs.set off v) := by
  obtain ⟨cur, hg, ht⟩ := h
  refine ⟨cur.setIfInBounds off v, ?_, ?_⟩
  · simp [World.setCell, Array.getElem?_modify, hg]
  · rw [List.length_set, Array.toList_setIfInBounds, List.take_set, ht]

theorem rowIs_cell {w : World} {g : Nat} {xs : List Value} (h : rowIs w g xs) (off : Nat) (v : Value) (hv : xs[off]? = some v) : w.cell? ⟨g, off, none⟩ = some v := by
  obtain ⟨cur, hg, ht⟩ := h
  rw [cell_of_row _ g off cur 26 (0, 0) hg]
  rw [← ht, List.getElem?_take] at hv
  split at hv
  · simpa using hv
  · cases hv

theorem rowIs_frozen {w : World} {g : Nat} {xs : List Value} (h : rowIs w g xs) (off : Nat) : w.frozen? ⟨g, off, none⟩ = false := by
  obtain ⟨cur, hg, ht⟩ := h
  simp [World.frozen?, hg]

def tabR : List Value := ((((((((((((((((((((cfgs 20).set 0 (.int .i64 17)).set 11 (.int .i64 17)).set 22 (.int .i64 1001)).set 33 (.int .i64 1001)).set 44 (.int .i64 33)).set 55 (.int .i64 17)).set 66 (.int .i64 5)).set 77 (.int .i64 17)).set 88 (.int .i64 65)).set 99 (.int .i64 1025)).set 100 (.int .i64 1)).set 111 (.int .i64 0)).set 122 (.int .i64 0)).set 133 (.int .i64 0)).set 144 (.int .i64 0)).set 155 (.int .i64 0)).set 166 (.int .i64 0)).set 177 (.int .i64 (-1))).set 188 (.int .i64 0)).set 199 (.int .i64 0)
def tabI : List Int := [17, 16, 1000, 1000, 32, 16, 4, 16, 64, 1024, 16, 17, 1000, 1000, 32, 16, 4, 16, 64, 1024, 16, 16, 1001, 1000, 32, 16, 4, 16, 64, 1024, 16, 16, 1000, 1001, 32, 16, 4, 16, 64, 1024, 16, 16, 1000, 1000, 33, 16, 4, 16, 64, 1024, 16, 16, 1000, 1000, 32, 17, 4, 16, 64, 1024, 16, 16, 1000, 1000, 32, 16, 5, 16, 64, 1024, 16, 16, 1000, 1000, 32, 16, 4, 17, 64, 1024, 16, 16, 1000, 1000, 32, 16, 4, 16, 65, 1024, 16, 16, 1000, 1000, 32, 16, 4, 16, 64, 1025, 1, 16, 1000, 1000, 32, 16, 4, 16, 64, 1024, 16, 0, 1000, 1000, 32, 16, 4, 16, 64, 1024, 16, 16, 0, 1000, 32, 16, 4, 16, 64, 1024, 16, 16, 1000, 0, 32, 16, 4, 16, 64, 1024, 16, 16, 1000, 1000, 0, 16, 4, 16, 64, 1024, 16, 16, 1000, 1000, 32, 0, 4, 16, 64, 1024, 16, 16, 1000, 1000, 32, 16, 0, 16, 64, 1024, 16, 16, 1000, 1000, 32, 16, 4, -1, 64, 1024, 16, 16, 1000, 1000, 32, 16, 4, 16, 0, 1024, 16, 16, 1000, 1000, 32, 16, 4, 16, 64, 0]
set_option maxRecDepth 100000 in
theorem tabR_eq : tabR = tabI.map (Value.int .i64) := rfl
def fld (k j : Nat) : Int := tabI.getD (k * 10 + j) 0
set_option maxRecDepth 100000 in
theorem tab_get (k j : Nat) (hk : k < 20) (hj : j < 10) : tabR[k * 10 + j]? = some (.int .i64 (fld k j)) := by
  have hl : tabI.length = 200 := rfl
  have hlt : k * 10 + j < tabI.length := by omega
  rw [tabR_eq, List.getElem?_map, List.getElem?_eq_getElem hlt]
  simp [fld, List.getD, List.getElem?_eq_getElem hlt]

set_option maxRecDepth 100000 in
theorem right_rows (k : Nat) (hk : k < 20) (w : World) :
    Calls Try.prog 8 #[.agg #[.int .i64 (fld k 0), .int .i64 (fld k 1), .int .i64 (fld k 2), .int .i64 (fld k 3), .int .i64 (fld k 4), .int .i64 (fld k 5), .int .i64 (fld k 6), .int .i64 (fld k 7), .int .i64 (fld k 8), .int .i64 (fld k 9)]] w
      fun e w' => e = .returned (.bool false) ∧ Below w.heap.size w w' := by
  rcases (show k = 0 ∨ k = 1 ∨ k = 2 ∨ k = 3 ∨ k = 4 ∨ k = 5 ∨ k = 6 ∨ k = 7 ∨ k = 8 ∨ k = 9 ∨ k = 10 ∨ k = 11 ∨ k = 12 ∨ k = 13 ∨ k = 14 ∨ k = 15 ∨ k = 16 ∨ k = 17 ∨ k = 18 ∨ k = 19 from by omega) with rfl | rfl | rfl | rfl | rfl | rfl | rfl | rfl | rfl | rfl | rfl | rfl | rfl | rfl | rfl | rfl | rfl | rfl | rfl | rfl
  · exact right_0 w
  · exact right_1 w
  · exact right_2 w
  · exact right_3 w
  · exact right_4 w
  · exact right_5 w
  · exact right_6 w
  · exact right_7 w
  · exact right_8 w
  · exact right_9 w
  · exact right_10 w
  · exact right_11 w
  · exact right_12 w
  · exact right_13 w
  · exact right_14 w
  · exact right_15 w
  · exact right_16 w
  · exact right_17 w
  · exact right_18 w
  · exact right_19 w

set_option maxHeartbeats 1000000 in
theorem top (w : World) :
    Calls Try.prog 3 #[] w fun e w' => e = .returned (.bool true) ∧ Below w.heap.size w w' := by
  go_enter Try.func3, Try.ntmps3
  go_wp2_with fail
  refine (names1_any _).mono ?_
  rintro e w1 ⟨rfl, rfl⟩
  go_wp2_with fail
  refine (named_of tab1 _ 45 rfl (by omega) (by omega)).mono ?_
  rintro e w1 ⟨rfl, hb1⟩
  go_wp2_with fail
  refine (names2_any _).mono ?_
  rintro e w2 ⟨rfl, rfl⟩
  go_wp2_with fail
  refine (named_of tab2 _ 45 rfl (by omega) (by omega)).mono ?_
  rintro e w2 ⟨rfl, hb2⟩
  go_wp2_with fail
  refine (names3_any _).mono ?_
  rintro e w3 ⟨rfl, rfl⟩
  go_wp2_with fail
  refine (named_of tab3 _ 10 rfl (by omega) (by omega)).mono ?_
  rintro e w3 ⟨rfl, hb3⟩
  have hb : Below w.heap.size w w3 := (hb1.trans (hb2.mono hb1.size)).trans (hb3.mono (Nat.le_trans hb1.size hb2.size))
  clear hb1 hb2 hb3
  go_wp2_with fail
  obtain ⟨i0, hi, hz0, hz1, hz2⟩ := info_parts Try.info26
  generalize hw4 : w3.alloc _ = w4
  have hsz : w4.heap.size = w3.heap.size + 1 := by rw [← hw4]; simp
  have hC : ∀ j, j < 10 → w4.cell? ⟨w3.heap.size, j, none⟩ = cfg[j]? := by
    intro j hj
    rw [← hw4, cell_of_row _ w3.heap.size j _ 26 (0, 0) (heap_alloc_new w3 _)]
    simp [cfg]
  have hb4 : Below w.heap.size w w4 := by rw [← hw4]; exact hb.alloc hb.size _
  have hbs := hb.size
  clear hw4 hb
  generalize hB : w3.heap.size = B at *
  clear hB
  go_loopw [3, 4] (fun v i wr => ∃ k : Nat, k ≤ 20 ∧ i = .int .i64 k ∧ wr.ownsRow (B + 1) 26 10 v k (cfgs k) ∧ Below (B + 1) w4 wr)
    (fun _ i _ => 20 - (intOf i).toNat)
  case atStart => exact ⟨0, by omega, rfl, World.ownsRow_nil _ _ _ _, Below.refl _ _⟩
  case round =>
    obtain ⟨k, hk, rfl, hown, hbel⟩ := hrel
    have hC' : ∀ j, j < 10 → wr.cell? ⟨B, j, none⟩ = cfg[j]? := fun j hj => (hbel.cell (by simp)).trans (hC j hj)
    have c0 := hC' 0 (by omega)
    have c1 := hC' 1 (by omega)
    have c2 := hC' 2 (by omega)
    have c3 := hC' 3 (by omega)
    have c4 := hC' 4 (by omega)
    have c5 := hC' 5 (by omega)
    have c6 := hC' 6 (by omega)
    have c7 := hC' 7 (by omega)
    have c8 := hC' 8 (by omega)
    have c9 := hC' 9 (by omega)
    simp only [cfg, List.getElem?_cons_zero, List.getElem?_cons_succ] at c0 c1 c2 c3 c4 c5 c6 c7 c8 c9
    clear hC'
    have hsz' := hbel.size
    by_cases hlt : k < 20
    · clear hC
      go_wp2_with (first
        | (at_builtin; refine wpList_append_own _ rfl _ _ 27 rfl (B + 1) 26 i0 _ 10 80 Try.underlying27 hi hz0 hz1 hz2 rfl (by decide) _ _ _ rfl (hown.alloc _) ⟨wr.heap.size, 0, none⟩ 1 1 cfg rfl rfl ?c1 ?c2 ?c3 ?c4 ?c5 ?_))
      case c1 => exact new_cells wr _ 26 cfg rfl
      case c2 => decide
      case c3 => unfold maxLen; omega
      case c4 => omega
      case c5 => simp; omega
      · intro v' w1 hown' hgrow _
        go_wp2
        go_roundw
        case rel => exact ⟨k + 1, by omega, by go_num, by rw [cfgs_succ]; exact hown', (hbel.alloc (by omega) _).grown hgrow (by simp; omega) (fun k hk => (hown.lt k hk).1)⟩
        case measure => simp [intOf]; omega
    · have hk20 : k = 20 := by omega
      subst hk20
      rw [show ((20 : Nat) : Int) = (20 : Int) from rfl]
      clear c0 c1 c2 c3 c4 c5 c6 c7 c8 c9
      rcases hown.2 with ⟨_, h⟩ | ⟨g, cap, cur, rfl, hBg, hg, hcap, hmax, hcs, htake⟩
      · omega
      have hrow : rowIs wr g (cfgs 20) := ⟨cur, hg, by rw [cfgs_len]; exact htake⟩
      clear htake hcs hmax hg hown hlt hk
      have hfz : ∀ o, wr.frozen? ⟨g, o, none⟩ = false := rowIs_frozen hrow
      have c0 := rowIs_cell hrow 0 _ rfl
      have c1 := rowIs_cell hrow 11 _ rfl
      have c2 := rowIs_cell hrow 22 _ rfl
      have c3 := rowIs_cell hrow 33 _ rfl
      have c4 := rowIs_cell hrow 44 _ rfl
      have c5 := rowIs_cell hrow 55 _ rfl
      have c6 := rowIs_cell hrow 66 _ rfl
      have c7 := rowIs_cell hrow 77 _ rfl
      have c8 := rowIs_cell hrow 88 _ rfl
      have c9 := rowIs_cell hrow 99 _ rfl
      have e0 := rowIs_cell hrow 100 _ rfl
      have e1 := rowIs_cell hrow 111 _ rfl
      have e2 := rowIs_cell hrow 122 _ rfl
      have e3 := rowIs_cell hrow 133 _ rfl
      have e4 := rowIs_cell hrow 144 _ rfl
      have e5 := rowIs_cell hrow 155 _ rfl
      have e6 := rowIs_cell hrow 166 _ rfl
      have e7 := rowIs_cell hrow 177 _ rfl
      have e8 := rowIs_cell hrow 188 _ rfl
      have e9 := rowIs_cell hrow 199 _ rfl
      go_wp2_with fail
      generalize hwF : World.setCell _ _ _ = wF
      have hrF : rowIs wF g tabR := by
        rw [← hwF]; unfold tabR
        repeat (refine rowIs_set ?_ _ _)
        exact hrow
      have hbF : Below (B + 1) w4 wF := by
        rw [← hwF]
        repeat (refine Below.setCell ?_ (by exact hBg) _)
        exact hbel
      clear hwF hrow c0 c1 c2 c3 c4 c5 c6 c7 c8 c9 e0 e1 e2 e3 e4 e5 e6 e7 e8 e9 hfz hbel
      go_loopw [5] (fun i wr => ∃ k : Nat, k ≤ 20 ∧ i = .int .i64 k ∧ Below wF.heap.size wF wr) (fun i _ => 20 - (intOf i).toNat)
      case atStart => exact ⟨0, by omega, rfl, Below.refl _ _⟩
      case round =>
        obtain ⟨k, hk, rfl, hbk⟩ := hrel
        have hgF : g < wF.heap.size := by
          obtain ⟨cur', hg', _⟩ := hrF
          exact (Array.getElem?_eq_some_iff.1 hg').1
        by_cases hlt : k < 20
        · have hc : ∀ j, j < 10 → wr.cell? ⟨g, k * 10 + j, none⟩ = some (.int .i64 (fld k j)) := fun j hj => (hbk.cell hgF).trans (rowIs_cell hrF _ _ (tab_get k j hlt hj))
          have c0 := hc 0 (by omega)
          have c1 := hc 1 (by omega)
          have c2 := hc 2 (by omega)
          have c3 := hc 3 (by omega)
          have c4 := hc 4 (by omega)
          have c5 := hc 5 (by omega)
          have c6 := hc 6 (by omega)
          have c7 := hc 7 (by omega)
          have c8 := hc 8 (by omega)
          have c9 := hc 9 (by omega)
          rw [Nat.add_zero] at c0
          clear hc
          go_wp2_with fail
          refine (right_rows k hlt _).mono ?_
          rintro e w5 ⟨rfl, hb5⟩
          clear c0 c1 c2 c3 c4 c5 c6 c7 c8 c9
          go_wp2_with fail
          go_roundw
          case rel => exact ⟨k + 1, by omega, by go_num, hbk.trans (hb5.mono hbk.size)⟩
          case measure => simp [intOf]; omega
        · have hall : Below w.heap.size w wr := (hb4.trans (hbF.mono (by omega))).trans (hbk.mono (by have := hbF.size; omega))
          have hC' : ∀ j, j < 10 → wr.cell? ⟨B, j, none⟩ = cfg[j]? := fun j hj => (hbk.cell (by have := hbF.size; simp; omega)).trans ((hbF.cell (by simp)).trans (hC j hj))
          have c0 := hC' 0 (by omega)
          have c1 := hC' 1 (by omega)
          have c2 := hC' 2 (by omega)
          have c3 := hC' 3 (by omega)
          have c4 := hC' 4 (by omega)
          have c5 := hC' 5 (by omega)
          have c6 := hC' 6 (by omega)
          have c7 := hC' 7 (by omega)
          have c8 := hC' 8 (by omega)
          have c9 := hC' 9 (by omega)
          simp only [cfg, List.getElem?_cons_zero, List.getElem?_cons_succ] at c0 c1 c2 c3 c4 c5 c6 c7 c8 c9
          clear hC' hC
          have hBr : B < wr.heap.size := by have := hbF.size; have := hbk.size; omega
          go_wp2_with fail
          refine (right_c _).mono ?_
          rintro e w5 ⟨rfl, hb5⟩
          clear c0 c1 c2 c3 c4 c5 c6 c7 c8 c9
          have hs5 := hb5.size
          rw [show (wr.alloc _).heap.size = wr.heap.size + 1 from by simp] at hs5
          have hC5 : ∀ j, w5.cell? ⟨wr.heap.size, j, none⟩ = _ := fun j => (hb5.cell (by simp))
          go_wp2_with fail
          refine (right_small _).mono ?_
          rintro e w6 ⟨rfl, hb6⟩
          go_wp2_with fail
          go_ret
          have hs := hall.size
          exact ⟨rfl, ((hall.alloc hs _).trans (hb5.mono (by simp; omega))).trans (hb6.mono (by omega))⟩



end Go.Proofs.Ytboghanldbmfmab
