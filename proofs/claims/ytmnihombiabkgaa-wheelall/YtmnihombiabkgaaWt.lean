import Derived.Test.YtmnihombiabkgaaGm
import Derived.Test.YtmnihombiabkgaaBd
import Derived.Test.YtmnihombiabkgaaBd2
namespace Go.Proofs.Ytmnihombiabkgaa
open Go.RowKit Go.PlainAid Go.MapKept
set_option linter.unusedVariables false
set_option linter.unusedSimpArgs false
/-- A timer. -/
structure Tm where
  due : Int
  num : Int
  kind : Int
  id : Int
  deriving DecidableEq
def Tm.row (t : Tm) : List Value := [.int .i64 t.due, .int .i64 t.num, .int .i64 t.kind, .int .i64 t.id]
def flatT (l : List Tm) : List Value := l.flatMap Tm.row
theorem flatT_one (l : List Tm) : ∀ u ∈ flatT l, u.oneCell' = true := by
  intro u hu
  unfold flatT at hu
  obtain ⟨t, _, hu⟩ := List.mem_flatMap.1 hu
  simp only [Tm.row, List.mem_cons, List.not_mem_nil, or_false] at hu
  rcases hu with rfl | rfl | rfl | rfl <;> rfl
theorem flatT_len (l : List Tm) : (flatT l).length = l.length * 4 := flat_len Tm.row 4 (fun _ => rfl) l
theorem flatT_app (l m : List Tm) : flatT (l ++ m) = flatT l ++ flatT m := by simp [flatT]
theorem info50 : (Try.prog.info? 50).map (fun i => (i.zero, i.size, i.bytes)) = some (some (.agg #[.int .i64 0, .int .i64 0, .int .i64 0, .int .i64 0]), 4, 32) := by kernel_rfl
theorem isz50 : (Try.prog.info? 50).map (·.size) = some 4 := by kernel_rfl
theorem isz33 : (Try.prog.info? 33).map (·.size) = some 1 := by kernel_rfl
theorem zero50 (w : World) : (zeroValue 50).run Try.prog w = .ok (.agg #[.int .i64 0, .int .i64 0, .int .i64 0, .int .i64 0]) w := by kernel_rfl
/-- Where a timer stands: its slot. -/
def pl (u : Int) (t : Tm) : Nat := (t.due % u).toNat
def slotOf (u : Int) (A : List Tm) (p : Nat) : List Tm := A.filter fun t => decide (pl u t = p)
theorem slot_push (u : Int) (A : List Tm) (t : Tm) (p : Nat) : slotOf u (A ++ [t]) p = if pl u t = p then slotOf u A p ++ [t] else slotOf u A p := by
  unfold slotOf
  rw [List.filter_append]
  by_cases h : pl u t = p <;> simp [h]
theorem pl_lt {u : Int} (t : Tm) (h1 : 1 ≤ u) (h2 : u ≤ 64) : pl u t < 64 := by
  unfold pl
  have := Int.emod_lt_of_pos t.due (show 0 < u by omega)
  have := Int.emod_nonneg t.due (show u ≠ 0 by omega)
  omega
theorem pl_int {u : Int} (t : Tm) (h1 : 1 ≤ u) : ((pl u t : Nat) : Int) = t.due % u := by
  unfold pl
  have := Int.emod_nonneg t.due (show u ≠ 0 by omega)
  omega
theorem findNow_int (k : Int) : ∀ (es : List MapEntry) (L : List (Int × Int)) (i : Nat), es.map kv = L.map (encP (fun z => Value.int .i64 z) (fun z => Value.int .i64 z)) → Instr.findNow (.int .i64) (.int .i64 k) es i = some ((fnd k L i).map fun p => (p.1, .int .i64 p.2.2))
  | [], [], i, _ => rfl
  | [], _ :: _, i, h => by simp at h
  | _ :: _, [], i, h => by simp at h
  | e :: es, x :: L, i, h => by
    simp only [List.map_cons, List.cons.injEq] at h
    obtain ⟨h1, h2⟩ := h
    have ek : e.key = .int .i64 x.1 := congrArg Prod.fst h1
    have ev : e.val = .int .i64 x.2 := congrArg Prod.snd h1
    have ih := findNow_int k es L (i + 1) h2
    by_cases hk : k = x.1
    · simp [Instr.findNow, ek, Instr.sameNow, hk, fnd, ev]
    · have hb : (k == x.1) = false := by simpa using hk
      simp only [Instr.findNow, ek, Instr.sameNow, fnd, hb, if_neg hk]
      exact ih
theorem checkI (n : Nat) (b : Bool) (k : Int) (w : World) : (Instr.checkKey b (n + 1) 3 (.int .i64 k)).run Try.prog w = .ok () w := by
  simp [Instr.checkKey, go_sem, Result.andThen, run_underlying Try.underlying3]
def MI : ML Int Int where
  kE := fun z => .int .i64 z
  vE := fun z => .int .i64 z
  z := 0
  tm := 45
  tk := 3
  tv := 3
  inj := fun a b h => by simpa using h
  under := Try.underlying45
  check := fun b k w => checkI 9999 b k w
  stays := fun k w => by
    have h : Instr.sameBits 10000 (.int .i64 k) (.int .i64 k) = true := by simp [Instr.sameBits]
    simp [Instr.keyThatStays, h]
  zero := fun w => by kernel_rfl
  find := fun k w es L h => by
    unfold Instr.findKey
    rw [Sem.run_bind, run_underlying Try.underlying3]
    simp only [Result.andThen]
    rw [findNow_int k es L 0 h]
    rfl
def kvT (u : Int) (t : Tm) : Int × Int := (t.num, ((pl u t : Nat) : Int))
def wbox (vs : List Value) (u : Int) (mp : Nat) (now last : Int) : Array Value := (vs ++ [Value.int .i64 u, .map (some mp), .int .i64 now, .int .i64 last]).toArray
/-- A wheel in memory. -/
structure WL (base whb mp : Nat) (u : Int) (vs : List Value) (now last : Int) (A : List Tm) (M : List (Int × Int)) (w : World) : Prop where
  b : Blk w whb (wbox vs u mp now last) 48
  m : HMap MI w mp M
  n : vs.length = 64
  r : ∀ p v, vs[p]? = some v → w.ownsRow base 50 4 v (slotOf u A p).length (flatT (slotOf u A p))
  dj : ∀ (p q : Nat) (v v' : Value), vs[p]? = some v → vs[q]? = some v' → p ≠ q → ∀ k, v.ownBlock = some k → v'.ownBlock ≠ some k
  lo : base ≤ whb ∧ base ≤ mp
/-- What holds of the numbers. -/
structure WB (u now last : Int) (A : List Tm) : Prop where
  hu : 1 ≤ u ∧ u ≤ 64
  hw : 0 ≤ now ∧ now ≤ 1000000
  hl : 0 ≤ last ∧ last ≤ 1000000
  num : ∀ t ∈ A, 1 ≤ t.num ∧ t.num ≤ last
  due : ∀ t ∈ A, now < t.due ∧ t.due ≤ now + 1099511627776
  up : A.Pairwise fun a b => a.num < b.num
  len : (A.length : Int) ≤ last
/-- The blocks of a wheel. -/
def wown (whb mp : Nat) (vs : List Value) (k : Nat) : Prop := k = whb ∨ k = mp ∨ ∃ v ∈ vs, v.ownBlock = some k
section
variable {base whb mp : Nat} {u now last : Int} {vs : List Value} {A : List Tm} {M : List (Int × Int)} {w w' : World}
theorem wbox_slot (h : vs.length = 64) {p : Nat} (hp : p < 64) : (wbox vs u mp now last)[p]? = vs[p]? := by
  simp only [wbox, List.getElem?_toArray]
  exact List.getElem?_append_left (by omega)
theorem wbox_at (h : vs.length = 64) (j : Nat) : (wbox vs u mp now last)[64 + j]? = [Value.int .i64 u, .map (some mp), .int .i64 now, .int .i64 last][j]? := by
  simp only [wbox, List.getElem?_toArray]
  rw [List.getElem?_append_right (by omega), h, Nat.add_sub_cancel_left]
theorem WL.c64 (h : WL base whb mp u vs now last A M w) : w.cell? ⟨whb, 64, none⟩ = some (.int .i64 u) := (h.b.cell 64).trans (wbox_at h.n 0)
theorem WL.c65 (h : WL base whb mp u vs now last A M w) : w.cell? ⟨whb, 65, none⟩ = some (.map (some mp)) := (h.b.cell 65).trans (wbox_at h.n 1)
theorem WL.c66 (h : WL base whb mp u vs now last A M w) : w.cell? ⟨whb, 66, none⟩ = some (.int .i64 now) := (h.b.cell 66).trans (wbox_at h.n 2)
theorem WL.c67 (h : WL base whb mp u vs now last A M w) : w.cell? ⟨whb, 67, none⟩ = some (.int .i64 last) := (h.b.cell 67).trans (wbox_at h.n 3)
theorem WL.cs (h : WL base whb mp u vs now last A M w) {p : Nat} (hp : p < 64) : w.cell? ⟨whb, p, none⟩ = vs[p]? := (h.b.cell p).trans (wbox_slot h.n hp)
theorem WL.get (h : WL base whb mp u vs now last A M w) {p : Nat} (hp : p < 64) : ∃ v, vs[p]? = some v := ⟨vs[p]'(by rw [h.n]; exact hp), List.getElem?_eq_getElem _⟩
theorem WL.keep (h : WL base whb mp u vs now last A M w) {S : Nat → Prop} (hc : Chg S w w') (hS : ∀ k, wown whb mp vs k → ¬ S k) : WL base whb mp u vs now last A M w' :=
  ⟨hc.blk h.b (hS _ (Or.inl rfl)), h.m.same (hc.block mp h.m.lt (hS _ (Or.inr (Or.inl rfl)))), h.n, fun p v hv => ownsRow_same (h.r p v hv) (fun g e => hc.block g (ownsRow_lt (h.r p v hv) e).2 (hS _ (Or.inr (Or.inr ⟨v, List.mem_of_getElem? hv, e⟩)))), h.dj, h.lo⟩
theorem WL.more (h : WL base whb mp u vs now last A M w) (hb : Below w.heap.size w w') : WL base whb mp u vs now last A M w' := h.keep (Chg.ofBelow (fun _ => False) hb) (fun _ _ h => h)
theorem WL.lt (h : WL base whb mp u vs now last A M w) {k : Nat} (hk : wown whb mp vs k) : k < w.heap.size := by
  rcases hk with rfl | rfl | ⟨v, hv, e⟩
  · exact h.b.lt
  · exact h.m.lt
  · obtain ⟨p, hp⟩ := List.getElem?_of_mem hv
    exact (ownsRow_lt (h.r p v hp) e).2
theorem WL.ge (h : WL base whb mp u vs now last A M w) {k : Nat} (hk : wown whb mp vs k) : base ≤ k := by
  rcases hk with rfl | rfl | ⟨v, hv, e⟩
  · exact h.lo.1
  · exact h.lo.2
  · obtain ⟨p, hp⟩ := List.getElem?_of_mem hv
    exact (ownsRow_lt (h.r p v hp) e).1
theorem WL.slot_ne (h : WL base whb mp u vs now last A M w) {p : Nat} {v : Value} (hv : vs[p]? = some v) {k : Nat} (hk : v.ownBlock = some k) : k ≠ whb ∧ k ≠ mp := by
  obtain ⟨cur, hcur⟩ := ownsRow_type (h.r p v hv) hk
  constructor
  · rintro rfl
    have := hcur.symm.trans h.b
    cases this
  · rintro rfl
    exact h.m.ne_b hcur rfl
theorem wbox_set67 (h : vs.length = 64) (x : Int) : (wbox vs u mp now last).setIfInBounds 67 (.int .i64 x) = wbox vs u mp now x := by
  simp [wbox, List.setIfInBounds_toArray, List.set_append, h]
theorem wbox_set66 (h : vs.length = 64) (x : Int) : (wbox vs u mp now last).setIfInBounds 66 (.int .i64 x) = wbox vs u mp x last := by
  simp [wbox, List.setIfInBounds_toArray, List.set_append, h]
theorem wbox_setp (h : vs.length = 64) {p : Nat} (hp : p < 64) (v : Value) : (wbox vs u mp now last).setIfInBounds p v = wbox (vs.set p v) u mp now last := by
  simp [wbox, List.setIfInBounds_toArray, List.set_append, h, hp]
theorem setCell_chg (W : World) (b j : Nat) (v : Value) : Chg (fun k => k = b) W (W.setCell ⟨b, j, none⟩ v) := ⟨rfl, rfl, rfl, by simp [World.setCell], fun k hk hn => Below.heap_setCell _ _ _ _ hn⟩
theorem WL.box (h : WL base whb mp u vs now last A M w) {now' last' : Int} (hc : Chg (fun k => k = whb) w w') (hb : Blk w' whb (wbox vs u mp now' last') 48) : WL base whb mp u vs now' last' A M w' :=
  ⟨hb, h.m.same (hc.block mp h.m.lt (fun e => h.m.ne_b h.b e.symm)), h.n, fun p v hv => ownsRow_same (h.r p v hv) (fun g e => hc.block g (ownsRow_lt (h.r p v hv) e).2 (fun e2 => (h.slot_ne hv e).1 e2)), h.dj, h.lo⟩
theorem WL.setLast (h : WL base whb mp u vs now last A M w) (x : Int) : WL base whb mp u vs now x A M (w.setCell ⟨whb, 67, none⟩ (.int .i64 x)) :=
  h.box (setCell_chg _ _ _ _) (by rw [← wbox_set67 (last := last) h.n]; exact h.b.set 67 _)
theorem WL.setNow (h : WL base whb mp u vs now last A M w) (x : Int) : WL base whb mp u vs x last A M (w.setCell ⟨whb, 66, none⟩ (.int .i64 x)) :=
  h.box (setCell_chg _ _ _ _) (by rw [← wbox_set66 (now := now) h.n]; exact h.b.set 66 _)
theorem WL.map (h : WL base whb mp u vs now last A M w) {M' : List (Int × Int)} (hc : Chg (fun k => k = mp) w w') (hm : HMap MI w' mp M') : WL base whb mp u vs now last A M' w' :=
  ⟨hc.blk h.b (h.m.ne_b h.b), hm, h.n, fun p v hv => ownsRow_same (h.r p v hv) (fun g e => hc.block g (ownsRow_lt (h.r p v hv) e).2 (fun e2 => (h.slot_ne hv e).2 e2)), h.dj, h.lo⟩
/-- One slot's row has become another, and stands in the box. -/
theorem WL.setSlot (h : WL base whb mp u vs now last A M w) {A' : List Tm} {p : Nat} {v v' : Value} (hp : p < 64) (hv : vs[p]? = some v) (hc : Chg (fun k => v.ownBlock = some k) w w')
    (hr : w'.ownsRow base 50 4 v' (slotOf u A' p).length (flatT (slotOf u A' p))) (hb : ∀ k, v'.ownBlock = some k → v.ownBlock = some k ∨ w.heap.size ≤ k) (hs : ∀ q, q ≠ p → slotOf u A' q = slotOf u A q) :
    WL base whb mp u (vs.set p v') now last A' M (w'.setCell ⟨whb, p, none⟩ v') := by
  have hB : Blk w' whb (wbox vs u mp now last) 48 := hc.blk h.b (fun e => (h.slot_ne hv e).1 rfl)
  have hm : HMap MI w' mp M := h.m.same (hc.block mp h.m.lt (fun e => (h.slot_ne hv e).2 rfl))
  have hc2 := setCell_chg w' whb p v'
  have hvn : ∀ k, v'.ownBlock = some k → k ≠ whb := fun k hk e => by
    subst e
    obtain ⟨cur, hcur⟩ := ownsRow_type hr hk
    have := hcur.symm.trans hB
    cases this
  have old : ∀ q x, vs[q]? = some x → q ≠ p → ∀ k, x.ownBlock = some k → (w'.setCell ⟨whb, p, none⟩ v').heap[k]? = w.heap[k]? := fun q x hx hq k hk => by
    have hl := (ownsRow_lt (h.r q x hx) hk).2
    exact (hc2.block k (Nat.lt_of_lt_of_le hl hc.size) (h.slot_ne hx hk).1).trans (hc.block k hl (fun e => h.dj q p x v hx hv hq k hk e))
  refine ⟨by rw [← wbox_setp h.n hp]; exact hB.set p v', hm.same (hc2.block mp hm.lt (fun e => hm.ne_b hB e.symm)), by simp [h.n], fun q x hx => ?_, fun q q' x x' hx hx' hne k hk => ?_, h.lo⟩
  · by_cases e : q = p
    · subst e
      have : x = v' := by
        rw [List.getElem?_set_self (by rw [h.n]; exact hp)] at hx
        exact (Option.some.inj hx).symm
      subst this
      exact ownsRow_same hr (fun g hg => hc2.block g (ownsRow_lt hr hg).2 (hvn g hg))
    · rw [List.getElem?_set_ne (fun e2 => e e2.symm)] at hx
      rw [hs q e]
      exact ownsRow_same (h.r q x hx) (fun g hg => old q x hx e g hg)
  · by_cases e : q = p
    · subst e
      have : x = v' := by
        rw [List.getElem?_set_self (by rw [h.n]; exact hp)] at hx
        exact (Option.some.inj hx).symm
      subst this
      rw [List.getElem?_set_ne hne] at hx'
      intro h2
      rcases hb k hk with h3 | h3
      · exact h.dj q q' v x' hv hx' hne k h3 h2
      · have := (ownsRow_lt (h.r q' x' hx') h2).2; omega
    · rw [List.getElem?_set_ne (fun e2 => e e2.symm)] at hx
      by_cases e' : q' = p
      · subst e'
        have : x' = v' := by
          rw [List.getElem?_set_self (by rw [h.n]; exact hp)] at hx'
          exact (Option.some.inj hx').symm
        subst this
        intro h2
        rcases hb k h2 with h3 | h3
        · exact h.dj q q' x v hx hv e k hk h3
        · have := (ownsRow_lt (h.r q x hx) hk).2; omega
      · rw [List.getElem?_set_ne (fun e2 => e' e2.symm)] at hx'
        exact h.dj q q' x x' hx hx' hne k hk
theorem wown_set {p : Nat} {v v' : Value} {n k : Nat} (hv : vs[p]? = some v) (hb : ∀ k, v'.ownBlock = some k → v.ownBlock = some k ∨ n ≤ k) (hk : wown whb mp (vs.set p v') k) : wown whb mp vs k ∨ n ≤ k := by
  rcases hk with e | e | ⟨x, hx, e⟩
  · exact Or.inl (Or.inl e)
  · exact Or.inl (Or.inr (Or.inl e))
  · rcases List.mem_or_eq_of_mem_set hx with h1 | rfl
    · exact Or.inl (Or.inr (Or.inr ⟨x, h1, e⟩))
    · rcases hb k e with h | h
      · exact Or.inl (Or.inr (Or.inr ⟨v, List.mem_of_getElem? hv, h⟩))
      · exact Or.inr h
theorem WL.m_ne (h : WL base whb mp u vs now last A M w) : whb ≠ mp := h.m.ne_b h.b
end
end Go.Proofs.Ytmnihombiabkgaa
