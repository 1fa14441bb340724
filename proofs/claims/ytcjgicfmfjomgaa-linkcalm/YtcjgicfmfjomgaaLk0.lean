import Derived.Test.YtcjgicfmfjomgaaGm
import Derived.Test.YtcjgicfmfjomgaaBd2
import Derived.Test.YtcjgicfmfjomgaaMix2
import Derived.Test.YtcjgicfmfjomgaaCmm
namespace Go.Proofs.Ytcjgicfmfjomgaa
open Go.RowKit Go.PlainAid Go.MapKept
set_option linter.unusedVariables false
set_option linter.unusedSimpArgs false
def B (u : UInt8) : Value := .int .u8 (u.toNat : Int)
/-- Data: where it lies, its bytes. -/
structure Dv where
  v : Value
  s : List UInt8
theorem findNow_val (k : Int) : ∀ (es : List MapEntry) (L : List (Int × Value)) (i : Nat), es.map kv = L.map (encP (fun z => Value.int .i64 z) (fun v => v)) → Instr.findNow (.int .i64) (.int .i64 k) es i = some ((fnd k L i).map fun p => (p.1, p.2.2))
  | [], [], i, _ => rfl
  | [], _ :: _, i, h => by simp at h
  | _ :: _, [], i, h => by simp at h
  | e :: es, x :: L, i, h => by
    simp only [List.map_cons, List.cons.injEq] at h
    obtain ⟨h1, h2⟩ := h
    have ek : e.key = .int .i64 x.1 := congrArg Prod.fst h1
    have ev : e.val = x.2 := congrArg Prod.snd h1
    have ih := findNow_val k es L (i + 1) h2
    by_cases hk : k = x.1
    · simp [Instr.findNow, ek, Instr.sameNow, hk, fnd, ev]
    · have hb : (k == x.1) = false := by simpa using hk
      simp only [Instr.findNow, ek, Instr.sameNow, fnd, hb, if_neg hk]
      exact ih
theorem checkI (n : Nat) (b : Bool) (k : Int) (w : World) : (Instr.checkKey b (n + 1) 3 (.int .i64 k)).run Try.prog w = .ok () w := by
  simp [Instr.checkKey, go_sem, Result.andThen, run_underlying Try.underlying3]
def MB : ML Int Value where
  kE := fun z => .int .i64 z
  vE := fun v => v
  z := .slice none 0 0
  tm := 75
  tk := 3
  tv := 41
  inj := fun a b h => by simpa using h
  under := Try.underlying75
  check := fun b k w => checkI 9999 b k w
  stays := fun k w => by
    have h : Instr.sameBits 10000 (.int .i64 k) (.int .i64 k) = true := by simp [Instr.sameBits]
    simp [Instr.keyThatStays, h]
  zero := fun w => by kernel_rfl
  find := fun k w es L h => by
    unfold Instr.findKey
    rw [Sem.run_bind, run_underlying Try.underlying3]
    simp only [Result.andThen]
    rw [findNow_val k es L 0 h]
    rfl
/-- A link's values. -/
structure LV where
  me : Int
  peer : Int
  win : Nat
  res : Int
  box : List Dv
  acked : Int
  under : List Dv
  due : Bool
  age : Int
  next : Int
  early : List (Int × Dv)
  owed : Bool
def LV.all (x : LV) : List Dv := x.box ++ x.under ++ x.early.map Prod.snd
def lbox (x : LV) (cb mb : Nat) (uv : Value) : Array Value := #[.int .i64 x.me, .int .i64 x.peer, .int .i64 (x.win : Int), .int .i64 x.res, .chan (some cb), .int .i64 x.acked, uv, .bool x.due, .int .i64 x.age, .int .i64 x.next, .map (some mb), .bool x.owed]
/-- A link in memory. -/
structure LM (L lb cb mb : Nat) (uv : Value) (x : LV) (w : World) : Prop where
  b : Blk w lb (lbox x cb mb uv) 77
  c : ∃ s r, w.heap[cb]? = some (.chan x.win (x.box.map Dv.v).toArray false s r false)
  u : w.ownsRow L 41 1 uv x.under.length (x.under.map Dv.v)
  m : HMap MB w mb (x.early.map fun p => (p.1, p.2.v))
  dt : ∀ d ∈ x.all, w.ownsRow L 5 1 d.v d.s.length (d.s.map B)
  dj : x.all.Pairwise fun d e => ∀ g, d.v.ownBlock = some g → e.v.ownBlock ≠ some g
  lo : L ≤ lb ∧ L ≤ cb ∧ L ≤ mb
def lown (lb cb mb : Nat) (uv : Value) (x : LV) (k : Nat) : Prop := k = lb ∨ k = cb ∨ k = mb ∨ uv.ownBlock = some k ∨ ∃ d ∈ x.all, d.v.ownBlock = some k
section
variable {L lb cb mb : Nat} {uv : Value} {x : LV} {w w' : World}
theorem LM.clt (h : LM L lb cb mb uv x w) : cb < w.heap.size := by
  obtain ⟨s, r, h1⟩ := h.c
  exact (Array.getElem?_eq_some_iff.1 h1).1
theorem LM.lt (h : LM L lb cb mb uv x w) {k : Nat} (hk : lown lb cb mb uv x k) : L ≤ k ∧ k < w.heap.size := by
  rcases hk with rfl | rfl | rfl | e | ⟨d, hd, e⟩
  · exact ⟨h.lo.1, h.b.lt⟩
  · exact ⟨h.lo.2.1, h.clt⟩
  · exact ⟨h.lo.2.2, h.m.lt⟩
  · exact ownsRow_lt h.u e
  · exact ownsRow_lt (h.dt d hd) e
theorem LM.keep (h : LM L lb cb mb uv x w) {S : Nat → Prop} (hc : Chg S w w') (hS : ∀ k, lown lb cb mb uv x k → ¬ S k) : LM L lb cb mb uv x w' := by
  have hs : ∀ k, lown lb cb mb uv x k → w'.heap[k]? = w.heap[k]? := fun k hk => hc.block k (h.lt hk).2 (hS k hk)
  obtain ⟨s, r, h1⟩ := h.c
  exact ⟨(hs lb (.inl rfl)).trans h.b, ⟨s, r, (hs cb (.inr (.inl rfl))).trans h1⟩, ownsRow_same h.u (fun g e => hs g (.inr (.inr (.inr (.inl e))))), h.m.same (hs mb (.inr (.inr (.inl rfl)))), fun d hd => ownsRow_same (h.dt d hd) (fun g e => hs g (.inr (.inr (.inr (.inr ⟨d, hd, e⟩))))), h.dj, h.lo⟩
theorem LM.more (h : LM L lb cb mb uv x w) (hb : Below w.heap.size w w') : LM L lb cb mb uv x w' := h.keep (Chg.ofBelow (fun _ => False) hb) (fun _ _ e => e)
/-- What differs from the link's own block. -/
theorem LM.ne_lb (h : LM L lb cb mb uv x w) : cb ≠ lb ∧ mb ≠ lb ∧ (∀ g, uv.ownBlock = some g → g ≠ lb) ∧ ∀ d ∈ x.all, ∀ g, d.v.ownBlock = some g → g ≠ lb := by
  obtain ⟨s, r, h1⟩ := h.c
  refine ⟨fun e => ?_, fun e => h.m.ne_b h.b e.symm, fun g e => ?_, fun d hd g e => ?_⟩
  · subst e
    have := h1.symm.trans h.b
    cases this
  · obtain ⟨cur, hcur⟩ := ownsRow_type h.u e
    exact Blk.ne_t hcur h.b (by decide)
  · obtain ⟨cur, hcur⟩ := ownsRow_type (h.dt d hd) e
    exact Blk.ne_t hcur h.b (by decide)
end
theorem setCell_chg (W : World) (b j : Nat) (v : Value) : Chg (fun k => k = b) W (W.setCell ⟨b, j, none⟩ v) := ⟨rfl, rfl, rfl, by simp [World.setCell], fun k hk hn => Below.heap_setCell _ _ _ _ hn⟩
set_option maxRecDepth 100000 in
theorem isReplica_any (n : Int) (w : World) : Calls Try.prog 30 #[.int .i64 n] w fun r w' => r = .returned (.bool (decide (0 ≤ n ∧ n < 16))) ∧ w' = w := by
  by_cases h0 : 0 ≤ n
  · by_cases h1 : n < 16
    · go_enter Try.func30, Try.ntmps30
      go_wp2_with fail
      go_ret
      exact ⟨by simp [h0, h1], rfl⟩
    · go_enter Try.func30, Try.ntmps30
      go_wp2_with fail
      go_ret
      exact ⟨by simp [h0, h1], rfl⟩
  · have h0' : n < 0 := by omega
    go_enter Try.func30, Try.ntmps30
    go_wp2_with fail
    go_ret
    exact ⟨by simp; omega, rfl⟩
theorem info41 : (Try.prog.info? 41).map (fun i => (i.zero, i.size, i.bytes)) = some (some (.slice none 0 0), 1, 24) := by kernel_rfl
theorem info5 : (Try.prog.info? 5).map (fun i => (i.zero, i.size, i.bytes)) = some (some (.int .u8 0), 1, 1) := by kernel_rfl
theorem mkChan (n : Nat) (hn : n ≤ 16) (w : World) : (Instr.makeChan 74 (.int .i64 (n : Int))).run Try.prog w = .ok (.chan (some w.heap.size)) (w.alloc (.chan n #[] false 0 0 false)) := by
  obtain ⟨i0, hi, _, _, hb⟩ := info_parts info41
  exact Conc.run_makeChan Try.underlying74 hi .i64 n (by omega) (by rw [hb]; omega)
def newOk (me peer win res : Int) : Prop := (0 ≤ me ∧ me < 16) ∧ (0 ≤ peer ∧ peer < 16) ∧ me ≠ peer
def fresh (me peer : Int) (win : Nat) (res : Int) : LV := ⟨me, peer, win, res, [], 0, [], false, 0, 1, [], false⟩
set_option maxRecDepth 100000 in
set_option maxHeartbeats 1600000 in
theorem new_any (me peer : Int) (win : Nat) (res : Int) (w : World) (h1 : 0 ≤ me ∧ me < 16) (h2 : 0 ≤ peer ∧ peer < 16) (h3 : me ≠ peer) (h4 : 1 ≤ win ∧ win ≤ 16) (h5 : 1 ≤ res ∧ res ≤ 1000) :
    Calls Try.prog 16 #[.int .i64 me, .int .i64 peer, .int .i64 (win : Int), .int .i64 res] w fun e w' => e = .returned (.tuple #[.pointer (some ⟨w.heap.size + 2, 0, none⟩), .int .i64 0]) ∧ LM w.heap.size (w.heap.size + 2) w.heap.size (w.heap.size + 1) (.slice none 0 0) (fresh me peer win res) w' ∧ Below w.heap.size w w' := by
  have hmm := @run_makeMap Try.prog
  have hmc := mkChan win h4.2
  have HR1 : Hid (∀ w, Calls Try.prog 30 #[.int .i64 me] w _) := fun w => isReplica_any me w
  have HR2 : Hid (∀ w, Calls Try.prog 30 #[.int .i64 peer] w _) := fun w => isReplica_any peer w
  have e1 : decide (0 ≤ me ∧ me < 16) = true := decide_eq_true h1
  have e2 : decide (0 ≤ peer ∧ peer < 16) = true := decide_eq_true h2
  have h3b : (me == peer) = false := by simpa using h3
  obtain ⟨h4a, h4b⟩ := h4
  obtain ⟨h5a, h5b⟩ := h5
  clear h1 h2
  go_enter Try.func16, Try.ntmps16
  go_wp2_with fail
  refine Calls.mono (HR1.out _) ?_
  rintro e w1 ⟨rfl, hw1⟩
  replace hw1 := hw1.symm
  subst hw1
  rw [e1]
  go_wp2_with fail
  refine Calls.mono (HR2.out _) ?_
  rintro e w1 ⟨rfl, hw1⟩
  replace hw1 := hw1.symm
  subst hw1
  rw [e2]
  clear HR1 HR2 e1 e2
  go_wp2_with fail
  go_ret2
  have hb1 : Below w.heap.size w (w.alloc (.chan win #[] false 0 0 false)) := (Below.refl _ _).alloc (Nat.le_refl _) _
  have hb2 : Below w.heap.size w ((w.alloc (.chan win #[] false 0 0 false)).alloc (.map #[] 0)) := hb1.alloc hb1.size _
  have hb3 := hb2.alloc hb2.size (.cells (lbox (fresh me peer win res) w.heap.size (w.heap.size + 1) (.slice none 0 0)) 77)
  refine ⟨rfl, ⟨?_, ⟨0, 0, ?_⟩, World.ownsRow_nil _ _ _ _, ?_, (fun d hd => by cases hd), List.Pairwise.nil, by omega, by omega, by omega⟩, hb3⟩
  · have := heap_alloc_new ((w.alloc (.chan win #[] false 0 0 false)).alloc (.map #[] 0)) (.cells (lbox (fresh me peer win res) w.heap.size (w.heap.size + 1) (.slice none 0 0)) 77)
    simp only [World.size_alloc] at this
    exact this
  · have h1 : (w.alloc (.chan win #[] false 0 0 false)).heap[w.heap.size]? = some (.chan win #[] false 0 0 false) := heap_alloc_new w _
    have h2 := (Below.heap_alloc (w.alloc (.chan win #[] false 0 0 false)) (.map #[] 0) w.heap.size (by simp)).trans h1
    exact (Below.heap_alloc _ (.cells (lbox (fresh me peer win res) w.heap.size (w.heap.size + 1) (.slice none 0 0)) 77) w.heap.size (by simp; omega)).trans h2
  · have hm : HMap MB ((w.alloc (.chan win #[] false 0 0 false)).alloc (.map #[] 0)) (w.alloc (.chan win #[] false 0 0 false)).heap.size [] := HMap.made _
    rw [World.size_alloc] at hm
    exact hm.same (Below.heap_alloc _ _ _ (by simp))
end Go.Proofs.Ytcjgicfmfjomgaa
