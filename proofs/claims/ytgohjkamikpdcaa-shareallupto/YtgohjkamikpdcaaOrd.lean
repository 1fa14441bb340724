import Derived.Test.YtgohjkamikpdcaaSrt
namespace Go.Proofs.Ytgohjkamikpdcaa
open Go.RowKit Go.PlainAid Go.Sort
set_option linter.unusedVariables false
set_option linter.unusedSimpArgs false
/-! slices.SortFunc over places, by their rests. -/
section
variable {α : Type} [Inhabited α]
theorem heap_sortedE (enc : α → Value) {w : World} {g n : Nat} {os : Array Obj} {cur : Array Value} {e : TypeId} {fr : Nat × Nat} (d : Array α) (hb : w.heap[g]? = some (.cells cur e fr)) :
    (grow (putRow enc (Sort.ahead w n) g 0 d) os).heap[g]? = some (.cells (putCells enc 0 d cur) e fr) := by
  have hg : g < w.heap.size := (Array.getElem?_eq_some_iff.1 hb).1
  rw [heap_grow_old _ _ (by simpa using hg)]
  simp [putRow, mapBlock, Sort.ahead, Array.getElem?_modify, hb, onCells]
theorem grownBy_sortedE (enc : α → Value) {w : World} {g n : Nat} {os : Array Obj} (d : Array α) : w.grownBy (grow (putRow enc (Sort.ahead w n) g 0 d) os) (some g) := by
  refine ⟨rfl, rfl, rfl, by simp, fun k hk hne => ?_⟩
  rw [heap_grow_old _ _ (by simpa using hk)]
  have : g ≠ k := fun e => hne (by rw [e])
  simp [putRow, mapBlock, Sort.ahead, Array.getElem?_modify, this]
theorem take_putCellsE (enc : α → Value) (cur : Array Value) (ts : List α) (h : ts.length ≤ cur.size) : (putCells enc 0 ts.toArray cur).toList.take ts.length = ts.map enc := by
  apply List.ext_getElem?
  intro j
  by_cases hj : j < ts.length
  · rw [List.getElem?_take_of_lt hj, Array.getElem?_toList]
    simp [putCells, hj, show j < cur.size by omega]
  · rw [List.getElem?_take_eq_none (by omega), List.getElem?_eq_none (by simp; omega)]
theorem ownsRow_sortedE (enc : α → Value) {w : World} {base g cap n m : Nat} {e : TypeId} {os : Array Obj} {cur : Array Value} {ts : List α} (hl : ts.length = m) (hbase : base ≤ g) (hb : w.heap[g]? = some (.cells cur e (0, 0)))
    (h1 : m ≤ cap) (h2 : cap ≤ maxLen) (h3 : cur.size = cap * 1) :
    (grow (putRow enc (Sort.ahead w n) g 0 ts.toArray) os).ownsRow base e 1 (.slice (some ⟨g, 0, none⟩) m cap) m (ts.map enc) :=
  ⟨by simp [hl], .inr ⟨g, cap, _, rfl, hbase, heap_sortedE enc _ hb, h1, h2, by simp [putCells, h3], by rw [Nat.mul_one, ← hl]; exact take_putCellsE enc cur ts (by omega)⟩⟩
end
def encF {n : Nat} (i : Fin n) : Value := .int .i64 (i.val : Int)
def cfF (n : Nat) (rs : List Int) (x y : Fin n) : Int := orI (cmpI (at0 rs y.val) (at0 rs x.val)) (cmpI (x.val : Int) (y.val : Int))
theorem ltF (n : Nat) (rs : List Int) (x y : Fin n) : ltOf (cfF n rs) x y = decide (before rs x.val y.val) := by
  unfold ltOf cfF orI cmpI before
  congr 1
  apply propext
  split <;> split <;> (try split) <;> (try split) <;> omega
theorem swoF (n : Nat) (rs : List Int) : SWO (ltOf (cfF n rs)) where
  irrefl x := by rw [ltF]; simpa using before_irrefl rs x.val
  trans x y z h1 h2 := by
    rw [ltF] at *
    simp only [decide_eq_true_eq] at *
    exact before_trans h1 h2
  ntrans x y z h1 h2 := by
    rw [ltF] at *
    simp only [decide_eq_false_iff_not] at *
    unfold before at *
    omega
theorem totF (n : Nat) (rs : List Int) (x y : Fin n) (h1 : ltOf (cfF n rs) x y = false) (h2 : ltOf (cfF n rs) y x = false) : x = y := by
  rw [ltF] at *
  simp only [decide_eq_false_iff_not] at *
  apply Classical.byContradiction
  intro hne
  rcases before_tot (rs := rs) (i := x.val) (j := y.val) (fun e => hne (Fin.ext e)) with h | h
  · exact h1 h
  · exact h2 h
theorem ordF_is (n : Nat) (rs : List Int) : ((List.finRange n).mergeSort fun x y => !ltOf (cfF n rs) y x) = ordF n rs := by
  unfold ordF
  congr 1
  funext x y
  rw [ltF]
/-- The numbers 0, 1, .. -/
def iotaI (n : Nat) : List Int := (List.range n).map fun (i : Nat) => (i : Int)
theorem ordI_map (rs : List Int) (n : Nat) (h : rs.length = n) : (ordF n rs).map encF = ((ord rs).map fun (i : Nat) => (i : Int)).map I := by
  subst h
  unfold ord
  simp only [List.map_map]
  rfl
set_option maxHeartbeats 800000 in
/-- The places are sorted by their rests. -/
theorem sortF_any {w : World} {L n g cap bx rb ro rc : Nat} {rs : List Int} (hl : rs.length = n) (h0 : 0 < n) (hn : n ≤ 16)
    (hown : w.ownsRow L 3 1 (.slice (some ⟨g, 0, none⟩) n cap) n ((iotaI n).map I)) (hbx : w.cell? ⟨bx, 0, none⟩ = some (.slice (some ⟨rb, ro, none⟩) n rc)) (hb1 : bx ≠ g) (hb2 : rb ≠ g) (hr : FromI w (some ⟨rb, ro, none⟩) rs) :
    Calls Try.prog 38 #[.slice (some ⟨g, 0, none⟩) n cap, .func (.func 35) #[] #[.pointer (some ⟨bx, 0, none⟩)]] w fun e w' => e = .returned (.tuple #[]) ∧ w'.ownsRow L 3 1 (.slice (some ⟨g, 0, none⟩) n cap) n (((ord rs).map fun (i : Nat) => (i : Int)).map I) ∧ Chg (fun k => k = g) w w' := by
  have eg : ∀ args w, (callFunc 35 args).run Try.prog w = .ok (.enter 35 args) w := enters_of Try.func35 (by kernel_rfl) rfl
  haveI : Inhabited (Fin n) := ⟨⟨0, h0⟩⟩
  rcases hown.2 with ⟨h1, _⟩ | ⟨g2, c, cur, h1, h2, h3, h4, h5, h6, h7⟩
  · cases h1
  cases h1
  have hgs : g < w.heap.size := (Array.getElem?_eq_some_iff.1 h3).1
  have hd : (List.finRange n).toArray.size = n := by simp
  have hH : Holds encF w g 0 (List.finRange n).toArray := by
    intro j hj
    rw [hd] at hj
    refine ⟨?_, by simp [World.frozen?, h3]⟩
    have := own_at hown hj
    rw [Nat.zero_add, this]
    have e1 : at0 (iotaI n) j = (j : Int) := by
      rw [at0_lt (by simp [iotaI]; exact hj)]
      simp [iotaI]
    rw [e1]
    simp [encF, hj]
  have hcmp : CmpLays1 Try.prog 35 #[.pointer (some ⟨bx, 0, none⟩)] encF (cfF n rs) g 0 (List.finRange n).toArray.size w := by
    intro m os dk hdk x y
    have hbxs : bx < w.heap.size := World.block_lt_of_cell? w _ hbx
    have hrbs : rb < w.heap.size := hr.lt (by omega)
    have key : ∀ k, k ≠ g → k < w.heap.size → ∀ o : Nat, (sortWorld encF w g 0 m dk os).cell? ⟨k, o, none⟩ = w.cell? ⟨k, o, none⟩ := fun k hk hks o => by
      have := (grownBy_sortedE encF (w := w) (g := g) (n := m) (os := os) dk).block k hks (fun e => hk (Option.some.inj e))
      exact World.cell?_of_block (w := w) this
    obtain ⟨_, _, e1, cx⟩ := hr.at (k := x.val) (by have := x.isLt; omega)
    cases e1
    obtain ⟨_, _, e1, cy⟩ := hr.at (k := y.val) (by have := y.isLt; omega)
    cases e1
    exact closure_any x.val y.val rb ro n rc bx (at0 rs x.val) (at0 rs y.val) _ ((key bx hb1 hbxs 0).trans hbx) x.isLt y.isLt (by omega) ((key rb hb2 hrbs _).trans cx) ((key rb hb2 hrbs _).trans cy)
  have hS := Any.slices_SortFunc_total sortL (encF (n := n)) (fun _ => rfl) (cfF n rs) (swoF n rs) 35 #[.pointer (some ⟨bx, 0, none⟩)] g 0 cap (List.finRange n).toArray w eg hcmp hH hgs (by rw [hd]; omega) (totF n rs)
  rw [hd] at hS
  change Calls Try.prog 38 _ _ _ at hS
  refine hS.mono ?_
  rintro e w' ⟨rfl, q, os, rfl⟩
  have hlen : (ordF n rs).length = n := by rw [(ordF_perm n rs).length_eq]; simp
  have hgr := grownBy_sortedE encF (w := w) (g := g) (n := q) (os := os) (ordF n rs).toArray
  refine ⟨rfl, ?_, ?_⟩
  · have := ownsRow_sortedE encF (w := w) (base := L) (g := g) (cap := cap) (n := q) (os := os) hlen h2 h3 h4 h5 h6
    rw [ordI_map rs n hl] at this
    rw [← ordF_is] at this
    exact this
  · rw [← ordF_is] at hgr
    exact ⟨hgr.os, hgr.tape, hgr.output, hgr.size, fun k hk hn => hgr.block k hk (fun e => hn (Option.some.inj e))⟩
end Go.Proofs.Ytgohjkamikpdcaa
