import Derived.Test.YtehjdkdoalmaeaaDbl
import Derived.Test.YtehjdkdoalmaeaaFind
import Derived.Test.YtehjdkdoalmaeaaArgsO
import Derived.Test.YtehjdkdoalmaeaaMov0
namespace Go.Proofs.Ytehjdkdoalmaeaa
open Go.RowKit Go.PlainAid
set_option linter.unusedVariables false
set_option linter.unusedSimpArgs false

/-- The bag and the law's own list beside it. -/
structure Hon (W : World) (n : Nat) (v v7 : Value) (lv ss : List LetV) (wr : World) : Prop where
  bag : Bag W.heap.size W.heap.size n v lv wr
  own : wr.ownsRow W.heap.size 31 3 v7 ss.length (flat ss)
  dat : ∀ x ∈ ss, Dt wr x
  sep : ∀ j, v.ownBlock = some j → v7.ownBlock ≠ some j
  below : Below W.heap.size W wr
structure Agree (n : Nat) (lv ss : List LetV) : Prop where
  perm : (lv.map LetV.k).Perm (ss.map LetV.k)
  len : lv.length ≤ n
  small : ∀ x ∈ lv, x.bs.length ≤ 1048576

theorem Stp.typed {hb n : Nat} {L : Nat} {v v' : Value} {lv : List LetV} {w w' : World} (h : Stp hb v v' w w') (hB : Bag L hb n v lv w) {k : Nat} {C : Array Value} {T : TypeId} {fr : Nat × Nat} (hk : w.heap[k]? = some (.cells C T fr)) (h1 : T ≠ 54) (h2 : T ≠ 31) : w'.heap[k]? = w.heap[k]? := by
  refine h.block k (Array.getElem?_eq_some_iff.1 hk).1 (fun e => ?_) (fun e => ?_)
  · subst e
    rw [hB.blk] at hk
    cases hk
    exact h1 rfl
  · obtain ⟨cur, hc⟩ := ownsRow_type hB.own e
    rw [hc] at hk
    cases hk
    exact h2 rfl
theorem Stp.dat {hb n L : Nat} {v v' d : Value} {lv : List LetV} {w w' : World} {m : Nat} {xs : List Value} {base : Nat} (h : Stp hb v v' w w') (hB : Bag L hb n v lv w) (hd : w.ownsRow base 5 1 d m xs) : w'.ownsRow base 5 1 d m xs :=
  ownsRow_same hd fun g hg => by
    obtain ⟨cur, hc⟩ := ownsRow_type hd hg
    exact h.typed hB hc (by decide) (by decide)
section
variable {W : World} {n : Nat} {v v7 : Value} {lv ss : List LetV} {wr w' : World}
theorem Hon.up (h : Hon W n v v7 lv ss wr) (hb : Below wr.heap.size wr w') : Hon W n v v7 lv ss w' :=
  ⟨h.bag.below hb, ownsRow_same h.own fun g hg => hb.block g (h.own.lt g hg).2, fun x hx => (h.dat x hx).below hb, h.sep, h.below.trans (hb.mono h.below.size)⟩
theorem Hon.v7hb (h : Hon W n v v7 lv ss wr) : v7.ownBlock ≠ some W.heap.size := fun e => by
  obtain ⟨cur, hc⟩ := ownsRow_type h.own e
  rw [h.bag.blk] at hc
  cases hc
theorem Hon.bagStep {v' : Value} {lv' : List LetV} (h : Hon W n v v7 lv ss wr) (hB : Bag W.heap.size W.heap.size n v' lv' w') (hst : Stp W.heap.size v v' wr w') : Hon W n v' v7 lv' ss w' := by
  refine ⟨hB, ownsRow_same h.own fun g hg => hst.block g (h.own.lt g hg).2 (fun e => h.v7hb (by rw [← e]; exact hg)) (fun e => h.sep g e hg), fun x hx => (h.dat x hx).keep fun b C fr hc => hst.typed h.bag hc (by decide) (by decide), fun j hj e => ?_, h.below.trans (hst.below h.below.size (Nat.le_refl _) fun j hj => (h.bag.own.lt j hj).1)⟩
  rcases hst.at' j hj with h1 | h1
  · exact h.sep j h1 e
  · have := (h.own.lt j e).2; omega
theorem Hon.sentStep {v7' : Value} {ss' : List LetV} (h : Hon W n v v7 lv ss wr) (ho : w'.ownsRow W.heap.size 31 3 v7' ss'.length (flat ss')) (hd : ∀ x ∈ ss', Dt w' x) (hg : Grew wr w' v7 v7') : Hon W n v v7' lv ss' w' := by
  have hlow : ∀ k, k < wr.heap.size → v7.ownBlock ≠ some k → w'.heap[k]? = wr.heap[k]? := fun k hk hn => hg.g.block k hk (fun e => hn e.symm)
  refine ⟨⟨(hlow _ h.bag.lt h.v7hb).trans h.bag.blk, ownsRow_same h.bag.own fun g hgg => hlow g (h.bag.own.lt g hgg).2 (h.sep g hgg), fun x hx => ownsRow_same (h.bag.dat x hx) fun g hgg => hlow g ((h.bag.dat x hx).lt g hgg).2 (fun e => ?_)⟩, ho, hd, fun j hj e => ?_, h.below.trans (hg.below (fun j hj => (h.own.lt j hj).1) h.below.size)⟩
  · obtain ⟨c1, q1⟩ := ownsRow_type (h.bag.dat x hx) hgg
    obtain ⟨c2, q2⟩ := ownsRow_type h.own e
    rw [q2] at q1
    cases q1
  · rcases hg.at' j e with h1 | h1
    · exact h.sep j hj h1
    · have := (h.bag.own.lt j hj).2; omega
theorem Hon.datG (h : Hon W n v v7 lv ss wr) {v7' : Value} (hg : Grew wr w' v7 v7') {x : LetV} (hd : Dt wr x) : Dt w' x :=
  hd.keep fun b C fr hc => hg.g.block b (Array.getElem?_eq_some_iff.1 hc).1 (fun e => by
    obtain ⟨c2, q2⟩ := ownsRow_type h.own e.symm
    rw [q2] at hc
    cases hc)
/-- A letter is put on the law's list. -/
theorem Hon.put (h : Hon W n v v7 lv ss wr) (f t : Int) (d : Value) (bs : List UInt8) (hd : Dt wr ⟨f, t, d, bs⟩) (hlen : ss.length ≤ 3000) (ty : TypeId) :
    ∃ v7' w', (Builtin.append_ #[22, 22] ty #[v7, .slice (some ⟨wr.heap.size, 0, none⟩) 1 1]).run Try.prog (wr.alloc (.cells (letC f t d) 31)) = .ok v7' w' ∧ Hon W n v v7' lv (ss ++ [⟨f, t, d, bs⟩]) w' ∧ Grew wr w' v7 v7' := by
  have hb1 : Below wr.heap.size wr (wr.alloc (.cells (letC f t d) 31)) := (Below.refl _ _).alloc (Nat.le_refl _) _
  have h1 := h.up hb1
  have hdc : d.oneCell' = true := hd.one
  obtain ⟨v7', w', hr, ho, hg⟩ := append3 h1.own wr.heap.size ⟨f, t, d, bs⟩ (heap_alloc_new wr _) hdc (by omega) h1.below.size ty
  refine ⟨v7', w', hr, h1.sentStep (by rw [List.length_append]; exact ho) (fun x hx => ?_) hg, hg.ofAlloc⟩
  rcases List.mem_append.1 hx with hx | hx
  · exact h1.datG hg (h1.dat x hx)
  · simp only [List.mem_singleton] at hx
    subst hx
    exact h1.datG hg (hd.below hb1)
/-- One is taken off the law's list. -/
theorem Hon.cut (h : Hon W n v v7 lv ss wr) (a : Nat) (x : LetV) (hx : ss[a]? = some x) (hlen : ss.length ≤ 3000) :
    ∃ g cap, v7 = .slice (some ⟨g, 0, none⟩) ss.length cap ∧ ss.length ≤ cap ∧ ∀ (wq : World), (∀ k : Nat, wq.heap[k]? = wr.heap[k]?) → wq.os = wr.os → wq.tape = wr.tape → wq.output = wr.output → wq.heap.size = wr.heap.size → ∃ w', (∀ ty, (Builtin.append_ #[22, 22] ty #[.slice (some ⟨g, 0, none⟩) a cap, from_ g ss.length cap (a + 1)]).run Try.prog wq = .ok (.slice (some ⟨g, 0, none⟩) (ss.eraseIdx a).length cap) w') ∧ Hon W n v (.slice (some ⟨g, 0, none⟩) (ss.eraseIdx a).length cap) lv (ss.eraseIdx a) w' ∧ Grew wr w' v7 (.slice (some ⟨g, 0, none⟩) (ss.eraseIdx a).length cap) := by
  have hal := (List.getElem?_eq_some_iff.1 hx).1
  have he := er_len ss a hal
  rcases h.own.2 with ⟨_, h0⟩ | ⟨g, cap, cur, hv7, hgb, hgr, hcap, hcm, hcs, htk⟩
  · omega
  refine ⟨g, cap, hv7, hcap, fun wq q1 q2 q3 q4 q5 => ?_⟩
  have hgrq : Blk wq g cur 31 := (q1 g).trans hgr
  obtain ⟨i0, hi, hz0, hz1, hz2⟩ := info_parts Try.info31
  have hld : ∀ y ∈ ss.drop (a + 1), y.d.oneCell' = true := fun y hy => (h.dat y (List.mem_of_mem_drop hy)).one
  have hfd : (flat (ss.drop (a + 1))).length = (ss.length - (a + 1)) * 3 := by rw [flat_len, List.length_drop]
  have hrun : ∀ ty, (Builtin.append_ #[22, 22] ty #[.slice (some ⟨g, 0, none⟩) a cap, from_ g ss.length cap (a + 1)]).run Try.prog wq = .ok (.slice (some ⟨g, 0, none⟩) (ss.eraseIdx a).length cap) (wq.setRow g (over cur (a * 3) (flat (ss.drop (a + 1))))) := fun ty => by
    obtain ⟨ad, e1, e2⟩ : ∃ ad, from_ g ss.length cap (a + 1) = .slice (some ad) (ss.length - (a + 1)) (cap - (a + 1)) ∧ (a + 1 < ss.length → ad = ⟨g, (a + 1) * 3, none⟩) := by
      unfold from_
      by_cases hc : cap = a + 1
      · rw [if_pos hc]
        exact ⟨_, rfl, fun h => by omega⟩
      · rw [if_neg hc]
        exact ⟨_, rfl, fun _ => rfl⟩
    rw [e1]
    have := run_append_room (P := Try.prog) wq 22 ty 31 i0 Try.underlying22 hi g a cap cur hgrq ad (ss.length - (a + 1)) (cap - (a + 1)) (flat (ss.drop (a + 1))) (by rw [hz1]; exact hfd) (fun j u hu => by
      have hj := (List.getElem?_eq_some_iff.1 hu).1
      rw [e2 (by omega), addr_add, hgrq.cell, ← Array.getElem?_toList]
      rw [← flat_drop, List.getElem?_drop, ← htk, List.getElem?_take] at hu
      split at hu
      · exact hu
      · cases hu) (flat_ones _ hld) (by omega) (by rw [hz1, hfd, hcs]; omega)
    rw [hz1] at this
    rw [this, show a + (ss.length - (a + 1)) = (ss.eraseIdx a).length from by omega]
    rfl
  refine ⟨_, hrun, ?_⟩
  have hk : ∀ k, k ≠ g → (wq.setRow g (over cur (a * 3) (flat (ss.drop (a + 1))))).heap[k]? = wr.heap[k]? := fun k hk => (heap_setRow_other _ _ _ hk).trans (q1 k)
  have hG : Grew wr (wq.setRow g (over cur (a * 3) (flat (ss.drop (a + 1))))) v7 (.slice (some ⟨g, 0, none⟩) (ss.eraseIdx a).length cap) := by
    refine ⟨⟨q2, q3, q4, by simp [World.setRow]; omega, fun k _ hne => hk k (fun e => hne (by rw [hv7, e]; rfl))⟩, fun j hj => Or.inl (by rw [hv7]; exact hj)⟩
  refine ⟨h.sentStep ⟨flat_len _, Or.inr ⟨g, cap, _, rfl, hgb, setRow_heap _ _ _ _ 31 _ hgrq, by omega, hcm, by rw [over_size _ _ _ (by omega), hcs], ?_⟩⟩ (fun y hy => h.datG hG (h.dat y (List.mem_of_mem_eraseIdx hy))) hG, hG⟩
  rw [over_take _ _ _ _ (by omega) (by omega) (by omega), List.take_of_length_le (l := flat _) (by omega), erase_split, flat_append, ← flat_take ss a, ← htk, List.take_take, Nat.min_eq_left (by omega)]
end
theorem Agree.put {n : Nat} {lv ss : List LetV} (h : Agree n lv ss) (x y : LetV) (hk : x.k = y.k) (hl : lv.length < n) (hs : x.bs.length ≤ 1048576) : Agree n (lv ++ [x]) (ss ++ [y]) := by
  refine ⟨?_, by simp; omega, fun z hz => ?_⟩
  · rw [List.map_append, List.map_append]
    refine h.perm.append ?_
    simp [hk]
  · rcases List.mem_append.1 hz with h1 | h1
    · exact h.small z h1
    · simp only [List.mem_singleton] at h1
      subst h1
      exact hs
theorem erase_perm {α : Type} (l : List α) (i : Nat) (a : α) (h : l[i]? = some a) : l.Perm (a :: l.eraseIdx i) := by
  have hi := (List.getElem?_eq_some_iff.1 h).1
  have e : l = l.take i ++ a :: l.drop (i + 1) := by
    conv => lhs; rw [← List.take_append_drop i l]
    rw [List.drop_eq_getElem_cons hi]
    congr 2
    exact (List.getElem?_eq_some_iff.1 h).2
  rw [erase_split]
  conv => lhs; rw [e]
  exact List.perm_middle
theorem Agree.cut {n : Nat} {lv ss : List LetV} (h : Agree n lv ss) {i a : Nat} {x y : LetV} (hx : lv[i]? = some x) (hy : ss[a]? = some y) (hk : x.k = y.k) : Agree n (lv.eraseIdx i) (ss.eraseIdx a) := by
  have hi := (List.getElem?_eq_some_iff.1 hx).1
  refine ⟨?_, by have := er_len lv i hi; have := h.len; omega, fun z hz => h.small z (List.mem_of_mem_eraseIdx hz)⟩
  have p1 := (erase_perm lv i x hx).map LetV.k
  have p2 := (erase_perm ss a y hy).map LetV.k
  have p3 := (p1.symm.trans h.perm).trans p2
  rw [List.map_cons, List.map_cons, hk] at p3
  exact p3.cons_inv
theorem Agree.move {n : Nat} {lv ss : List LetV} (h : Agree n lv ss) {i j : Nat} {x : LetV} (hx : lv[i]? = some x) (hj : j < lv.length) : Agree n ((lv.eraseIdx i).insertIdx j x) ss := by
  have hi := (List.getElem?_eq_some_iff.1 hx).1
  have he := er_len lv i hi
  have hp : ((lv.eraseIdx i).insertIdx j x).Perm lv := by
    rw [insert_split _ _ _ (by omega)]
    refine List.perm_middle.trans ?_
    rw [List.take_append_drop]
    exact (erase_perm lv i x hx).symm
  refine ⟨(hp.map LetV.k).trans h.perm, by rw [hp.length_eq]; exact h.len, fun z hz => h.small z (hp.mem_iff.1 hz)⟩
theorem Agree.has {n : Nat} {lv ss : List LetV} (h : Agree n lv ss) {x : LetV} (hx : x ∈ lv) : ∃ y ∈ ss, y.k = x.k := by
  have := (h.perm.mem_iff (a := x.k)).1 (List.mem_map.2 ⟨x, hx, rfl⟩)
  obtain ⟨y, hy, e⟩ := List.mem_map.1 this
  exact ⟨y, hy, e⟩
theorem Agree.lens {n : Nat} {lv ss : List LetV} (h : Agree n lv ss) : lv.length = ss.length := by
  have := h.perm.length_eq
  simpa using this
end Go.Proofs.Ytehjdkdoalmaeaa
