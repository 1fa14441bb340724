import Derived.Test.YtehjdkdoalmaeaaBase
namespace Go.Proofs.Ytehjdkdoalmaeaa
open Go.RowKit Go.PlainAid
set_option linter.unusedVariables false

/-- A letter, as the memory holds it: whence, whither, the slice of its bytes, the bytes. -/
structure LetV where
  f : Int
  t : Int
  d : Value
  bs : List UInt8
def letC (f t : Int) (d : Value) : Array Value := #[.int .i64 f, .int .i64 t, d]
def LetV.c (l : LetV) : Array Value := letC l.f l.t l.d
def flat : List LetV → List Value
  | [] => []
  | l :: ls => .int .i64 l.f :: .int .i64 l.t :: l.d :: flat ls
theorem flat_len : ∀ ls : List LetV, (flat ls).length = ls.length * 3
  | [] => rfl
  | l :: ls => by simp only [flat, List.length_cons, flat_len ls]; omega
theorem flat_append : ∀ (a b : List LetV), flat (a ++ b) = flat a ++ flat b
  | [], _ => rfl
  | l :: a, b => by simp [flat, flat_append a b]
theorem flat_one (l : LetV) : flat [l] = l.c.toList := rfl
theorem flat_take : ∀ (ls : List LetV) (n : Nat), (flat ls).take (n * 3) = flat (ls.take n)
  | [], n => by simp [flat]
  | l :: ls, 0 => by simp [flat]
  | l :: ls, n + 1 => by
    rw [show (n + 1) * 3 = n * 3 + 1 + 1 + 1 from by omega]
    simp only [flat, List.take_succ_cons, flat_take ls n]
theorem flat_drop : ∀ (ls : List LetV) (n : Nat), (flat ls).drop (n * 3) = flat (ls.drop n)
  | [], n => by simp [flat]
  | l :: ls, 0 => by simp [flat]
  | l :: ls, n + 1 => by
    rw [show (n + 1) * 3 = n * 3 + 1 + 1 + 1 from by omega]
    simp only [flat, List.drop_succ_cons, flat_drop ls n]
theorem flat_get : ∀ (ls : List LetV) (i : Nat) (l : LetV), ls[i]? = some l → (flat ls)[i * 3]? = some (.int .i64 l.f) ∧ (flat ls)[i * 3 + 1]? = some (.int .i64 l.t) ∧ (flat ls)[i * 3 + 2]? = some l.d
  | [], i, l, h => by simp at h
  | x :: ls, 0, l, h => by
    simp only [List.getElem?_cons_zero, Option.some.injEq] at h
    subst h
    exact ⟨rfl, rfl, rfl⟩
  | x :: ls, i + 1, l, h => by
    simp only [List.getElem?_cons_succ] at h
    have := flat_get ls i l h
    rw [show (i + 1) * 3 = i * 3 + 1 + 1 + 1 from by omega]
    simp only [flat, show i * 3 + 1 + 1 + 1 + 1 = i * 3 + 1 + 1 + 1 + 1 from rfl, show i * 3 + 1 + 1 + 1 + 2 = i * 3 + 2 + 1 + 1 + 1 from by omega, List.getElem?_cons_succ]
    exact this
theorem own_slice {w : World} {base n e s : Nat} {v : Value} {xs : List Value} (h : w.ownsRow base e s v n xs) : ∃ ao cap, v = .slice ao n cap ∧ n ≤ cap := by
  rcases h.2 with ⟨rfl, rfl⟩ | ⟨g, cap, cur, rfl, _, _, hc, _⟩
  · exact ⟨none, 0, rfl, Nat.le_refl _⟩
  · exact ⟨_, cap, rfl, hc⟩

theorem Try.info31 : (Try.prog.info? 31).map (fun i => (i.zero, i.size, i.bytes)) = some (some (.agg #[.int .i64 0, .int .i64 0, .slice none 0 0]), 3, 40) := by kernel_rfl

/-- A letter is appended to a row of letters. -/
theorem append3 {w : World} {base k : Nat} {v : Value} {ls : List LetV} (hown : w.ownsRow base 31 3 v k (flat ls)) (g : Nat) (l : LetV) (hB : Blk w g l.c 31) (hd : l.d.oneCell' = true) (hlen : k ≤ 100000) (hbase : base ≤ w.heap.size) (ty : TypeId) :
    ∃ v' w', (Builtin.append_ #[22, 22] ty #[v, .slice (some ⟨g, 0, none⟩) 1 1]).run Try.prog w = .ok v' w' ∧ w'.ownsRow base 31 3 v' (k + 1) (flat (ls ++ [l])) ∧ Grew w w' v v' := by
  obtain ⟨i0, hi, hz0, hz1, hz2⟩ := info_parts Try.info31
  have hnews : ∀ j u, l.c.toList[j]? = some u → w.cell? ((⟨g, 0, none⟩ : Addr).add j) = some u := fun j u hu => by
    rw [addr_add, Nat.zero_add, hB.cell]
    simpa using hu
  have h1 : ∀ u ∈ l.c.toList, u.oneCell' = true := by
    intro u hu
    simp [LetV.c, letC] at hu
    rcases hu with rfl | rfl | rfl
    · rfl
    · rfl
    · exact hd
  obtain ⟨v', w', hr, ho, hg, _⟩ := run_append_own (P := Try.prog) w base 22 ty 31 i0 _ 3 40 Try.underlying22 hi hz0 hz1 hz2 rfl (by decide) v k (flat ls) hown ⟨g, 0, none⟩ 1 1 l.c.toList rfl hnews h1 (by unfold maxLen; omega) (by omega) hbase
  refine ⟨v', w', hr, by rw [flat_append, flat_one]; exact ho, hg, ?_⟩
  rcases hown.2 with ⟨rfl, rfl⟩ | ⟨g2, c, cur, rfl, _, hg2, hnc, hcm, hcs, htk⟩
  · obtain ⟨v1, w1, hr1, ho1, _⟩ := run_append_own (P := Try.prog) w w.heap.size 22 ty 31 i0 _ 3 40 Try.underlying22 hi hz0 hz1 hz2 rfl (by decide) (.slice none 0 0) 0 [] (World.ownsRow_nil _ _ _ _) ⟨g, 0, none⟩ 1 1 l.c.toList rfl hnews h1 (by unfold maxLen; omega) (by omega) (Nat.le_refl _)
    rw [hr] at hr1
    cases hr1
    exact fun j hj => Or.inr (ho1.lt j hj).1
  · by_cases hroom : k + 1 ≤ c
    · have hr1 := run_append_room (P := Try.prog) w 22 ty 31 i0 Try.underlying22 hi g2 k c cur hg2 ⟨g, 0, none⟩ 1 1 l.c.toList (by rw [hz1]; rfl) hnews h1 hroom (by rw [hz1, hcs]; simp [LetV.c, letC]; omega)
      rw [hr] at hr1
      cases hr1
      exact fun j hj => Or.inl hj
    · have hr1 := run_append_grow (P := Try.prog) w 22 ty 31 i0 _ Try.underlying22 hi hz0 ⟨g2, 0, none⟩ k c (flat ls) (by rw [hz1]; exact hown.1) (hown.cells (g := g2) rfl) ⟨g, 0, none⟩ 1 1 l.c.toList (by rw [hz1]; rfl) hnews (by omega) (by omega) (growslice_fits (by omega) (by rw [hz2]; omega))
      rw [hr] at hr1
      cases hr1
      intro j hj
      cases hj
      exact Or.inr (Nat.le_refl _)

/-- A bag: its box, the row of its letters, the bytes of each. -/
structure Bag (base hb room : Nat) (v : Value) (ls : List LetV) (w : World) : Prop where
  blk : w.heap[hb]? = some (.cells #[.int .i64 (room : Nat), v] 54 (0, 0))
  own : w.ownsRow base 31 3 v ls.length (flat ls)
  dat : ∀ l ∈ ls, w.ownsRow base 5 1 l.d l.bs.length (l.bs.map B)
/-- What a bag's call leaves as it was: all but its box and its row; where the row then stands. -/
structure Stp (hb : Nat) (v v' : Value) (w w' : World) : Prop where
  os : w'.os = w.os
  tape : w'.tape = w.tape
  output : w'.output = w.output
  size : w.heap.size ≤ w'.heap.size
  block : ∀ k, k < w.heap.size → k ≠ hb → v.ownBlock ≠ some k → w'.heap[k]? = w.heap[k]?
  at' : ∀ j, v'.ownBlock = some j → v.ownBlock = some j ∨ w.heap.size ≤ j
theorem Stp.refl (hb : Nat) (v : Value) (w : World) : Stp hb v v w w := ⟨rfl, rfl, rfl, Nat.le_refl _, fun _ _ _ _ => rfl, fun _ h => Or.inl h⟩
theorem Stp.trans {hb : Nat} {u v x : Value} {a b c : World} (h : Stp hb u v a b) (k : Stp hb v x b c) : Stp hb u x a c := by
  refine ⟨k.os.trans h.os, k.tape.trans h.tape, k.output.trans h.output, Nat.le_trans h.size k.size, fun j hj hn hv => ?_, fun j hj => ?_⟩
  · refine (k.block j (Nat.lt_of_lt_of_le hj h.size) hn fun e => ?_).trans (h.block j hj hn hv)
    rcases h.at' j e with h1 | h1
    · exact hv h1
    · omega
  · rcases k.at' j hj with h1 | h1
    · exact h.at' j h1
    · exact Or.inr (Nat.le_trans h.size h1)
theorem Stp.ofBelow {hb : Nat} (v : Value) {w w' : World} (h : Below w.heap.size w w') : Stp hb v v w w' := ⟨h.os, h.tape, h.output, h.size, fun k hk _ _ => h.block k hk, fun _ h => Or.inl h⟩
theorem Stp.below {hb : Nat} {v v' : Value} {w w' : World} (h : Stp hb v v' w w') {L : Nat} (hL : L ≤ w.heap.size) (h1 : L ≤ hb) (h2 : ∀ j, v.ownBlock = some j → L ≤ j) : Below L w w' :=
  ⟨h.os, h.tape, h.output, h.size, fun k hk => h.block k (by omega) (by omega) fun e => by have := h2 k e; omega⟩
theorem ownsRow_same {w w' : World} {base e s n : Nat} {v : Value} {xs : List Value} (h : w.ownsRow base e s v n xs) (hb : ∀ g, v.ownBlock = some g → w'.heap[g]? = w.heap[g]?) : w'.ownsRow base e s v n xs := by
  refine ⟨h.1, ?_⟩
  rcases h.2 with hn | ⟨g, cap, cur, rfl, h1, h2, h3⟩
  · exact Or.inl hn
  · exact Or.inr ⟨g, cap, cur, rfl, h1, (hb g rfl).trans h2, h3⟩
theorem ownsRow_type {w : World} {base e s n : Nat} {v : Value} {xs : List Value} (h : w.ownsRow base e s v n xs) {g : Nat} (hg : v.ownBlock = some g) : ∃ cur, w.heap[g]? = some (.cells cur e (0, 0)) := by
  rcases h.2 with ⟨rfl, _⟩ | ⟨g', cap, cur, rfl, _, hh, _⟩
  · cases hg
  · cases hg
    exact ⟨cur, hh⟩
theorem ownsRow_mono {w : World} {base base' e s n : Nat} {v : Value} {xs : List Value} (h : w.ownsRow base e s v n xs) (hb : base' ≤ base) : w.ownsRow base' e s v n xs := by
  refine ⟨h.1, ?_⟩
  rcases h.2 with hn | ⟨g, cap, cur, rfl, h1, h2, h3⟩
  · exact Or.inl hn
  · exact Or.inr ⟨g, cap, cur, rfl, Nat.le_trans hb h1, h2, h3⟩
section
variable {base hb room : Nat} {v : Value} {ls : List LetV} {w w' : World}
theorem Bag.lt (h : Bag base hb room v ls w) : hb < w.heap.size := (Array.getElem?_eq_some_iff.1 h.blk).1
theorem Bag.ne (h : Bag base hb room v ls w) : v.ownBlock ≠ some hb := fun e => by
  obtain ⟨cur, hc⟩ := ownsRow_type h.own e
  rw [h.blk] at hc
  cases hc
theorem Bag.c0 (h : Bag base hb room v ls w) : w.cell? ⟨hb, 0, none⟩ = some (.int .i64 (room : Nat)) := by rw [cell_of_row w hb 0 _ 54 (0, 0) h.blk]; rfl
theorem Bag.c1 (h : Bag base hb room v ls w) : w.cell? ⟨hb, 1, none⟩ = some v := by rw [cell_of_row w hb 1 _ 54 (0, 0) h.blk]; rfl
theorem Bag.fz (h : Bag base hb room v ls w) (j : Nat) : w.frozen? ⟨hb, j, none⟩ = false := by simp [World.frozen?, h.blk]
theorem Bag.dne (h : Bag base hb room v ls w) (l : LetV) (hl : l ∈ ls) (k : Nat) (hk : l.d.ownBlock = some k) : k ≠ hb ∧ v.ownBlock ≠ some k := by
  obtain ⟨cur, hc⟩ := ownsRow_type (h.dat l hl) hk
  refine ⟨fun e => ?_, fun e => ?_⟩
  · subst e
    rw [h.blk] at hc
    cases hc
  · obtain ⟨cur', hc'⟩ := ownsRow_type h.own e
    rw [hc'] at hc
    cases hc
/-- What is above the bag's memory does not touch it. -/
theorem Bag.keep (h : Bag base hb room v ls w) (hk : ∀ k, k < w.heap.size → w'.heap[k]? = w.heap[k]?) : Bag base hb room v ls w' :=
  ⟨(hk hb h.lt).trans h.blk, ownsRow_same h.own fun g hg => hk g (h.own.lt g hg).2, fun l hl => ownsRow_same (h.dat l hl) fun g hg => hk g ((h.dat l hl).lt g hg).2⟩
theorem Bag.below (h : Bag base hb room v ls w) (hb' : Below w.heap.size w w') : Bag base hb room v ls w' := h.keep hb'.block
theorem Bag.at_ (h : Bag base hb room v ls w) {i : Nat} {l : LetV} (hi : ls[i]? = some l) : ∃ g cap, v = .slice (some ⟨g, 0, none⟩) ls.length cap ∧ ls.length ≤ cap ∧ w.cell? ⟨g, i * 3, none⟩ = some (.int .i64 l.f) ∧ w.cell? ⟨g, i * 3 + 1, none⟩ = some (.int .i64 l.t) ∧ w.cell? ⟨g, i * 3 + 2, none⟩ = some l.d := by
  have hlt := (List.getElem?_eq_some_iff.1 hi).1
  have ho := h.own
  rcases ho.2 with ⟨_, h0⟩ | ⟨g, cap, cur, rfl, _, _, hc, _⟩
  · omega
  · have hcell := ho.cells (g := g) rfl
    obtain ⟨h0, h1, h2⟩ := flat_get ls i l hi
    refine ⟨g, cap, rfl, hc, ?_, ?_, ?_⟩
    · have := hcell _ _ h0; rwa [addr_add, Nat.zero_add] at this
    · have := hcell _ _ h1; rwa [addr_add, Nat.zero_add] at this
    · have := hcell _ _ h2; rwa [addr_add, Nat.zero_add] at this
end
end Go.Proofs.Ytehjdkdoalmaeaa
