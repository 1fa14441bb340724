import Derived.Test.YtkdndfdofhnagaaDoorJF
import Derived.Shelf.Sort.Plain
import Derived.Sort.OwnSortedInts
import Derived.Test.YtkdndfdofhnagaaDoorHold
namespace Go.Proofs.YtkdndfdofhnagaaDoor
open Go.RowKit Go.PlainAid Go.Sort
set_option linter.unusedVariables false
set_option linter.unusedSimpArgs false
def lays189_ren : Go.Shelf.Ren := ⟨fun | 189 => 42 | 125 => 58 | 257 => 57 | 128 => 75 | 129 => 76 | 294 => 66 | 295 => 67 | 296 => 68 | 297 => 69 | 298 => 70 | 299 => 71 | 216 => 72 | 300 => 73 | 301 => 74 | 328 => 78 | 329 => 79 | 330 => 80 | 331 => 81 | 332 => 82 | 215 => 83 | 343 => 84 | n => n, fun | 28 => 48 | 3 => 3 | 46 => 102 | 0 => 0 | 51 => 122 | 53 => 124 | 4 => 4 | 183 => 114 | 182 => 113 | 131 => 119 | 5 => 5 | 9 => 9 | 218 => 136 | 222 => 98 | 228 => 141 | 229 => 90 | n => n, fun | n => n⟩
theorem lays189 : Lays.n189 Tryd.prog lays189_ren := {
  mixed := by kernel_rfl
  f125 := Tryd.func58.trans (congrArg some (by kernel_rfl))
  f128 := Tryd.func75.trans (congrArg some (by kernel_rfl))
  f129 := Tryd.func76.trans (congrArg some (by kernel_rfl))
  f189 := Tryd.func42.trans (congrArg some (by kernel_rfl))
  f215 := Tryd.func83.trans (congrArg some (by kernel_rfl))
  f216 := Tryd.func72.trans (congrArg some (by kernel_rfl))
  f257 := Tryd.func57.trans (congrArg some (by kernel_rfl))
  f294 := Tryd.func66.trans (congrArg some (by kernel_rfl))
  f295 := Tryd.func67.trans (congrArg some (by kernel_rfl))
  f296 := Tryd.func68.trans (congrArg some (by kernel_rfl))
  f297 := Tryd.func69.trans (congrArg some (by kernel_rfl))
  f298 := Tryd.func70.trans (congrArg some (by kernel_rfl))
  f299 := Tryd.func71.trans (congrArg some (by kernel_rfl))
  f300 := Tryd.func73.trans (congrArg some (by kernel_rfl))
  f301 := Tryd.func74.trans (congrArg some (by kernel_rfl))
  f328 := Tryd.func78.trans (congrArg some (by kernel_rfl))
  f329 := Tryd.func79.trans (congrArg some (by kernel_rfl))
  f330 := Tryd.func80.trans (congrArg some (by kernel_rfl))
  f331 := Tryd.func81.trans (congrArg some (by kernel_rfl))
  f332 := Tryd.func82.trans (congrArg some (by kernel_rfl))
  f343 := Tryd.func84.trans (congrArg some (by kernel_rfl))
  t0 := Tryd.underlying0
  a0 := Tryd.isAgg0
  z0 := Tryd.sizeOf0
  v0 := Tryd.zeroValue0
  t3 := Tryd.underlying3
  a3 := Tryd.isAgg3
  z3 := Tryd.sizeOf3
  v3 := Tryd.zeroValue3
  t4 := Tryd.underlying4
  a4 := Tryd.isAgg4
  z4 := Tryd.sizeOf4
  v4 := Tryd.zeroValue4
  t5 := Tryd.underlying5
  a5 := Tryd.isAgg5
  z5 := Tryd.sizeOf5
  v5 := Tryd.zeroValue5
  t9 := Tryd.underlying9
  a9 := Tryd.isAgg9
  z9 := Tryd.sizeOf9
  v9 := Tryd.zeroValue9
  t28 := Tryd.underlying48
  a28 := Tryd.isAgg48
  z28 := Tryd.sizeOf48
  v28 := Tryd.zeroValue48
  t46 := Tryd.underlying102
  a46 := Tryd.isAgg102
  z46 := Tryd.sizeOf102
  v46 := Tryd.zeroValue102
  t51 := Tryd.underlying122
  a51 := Tryd.isAgg122
  z51 := Tryd.sizeOf122
  v51 := Tryd.zeroValue122
  t53 := Tryd.underlying124
  a53 := Tryd.isAgg124
  z53 := Tryd.sizeOf124
  v53 := Tryd.zeroValue124
  t131 := Tryd.underlying119
  a131 := Tryd.isAgg119
  z131 := Tryd.sizeOf119
  v131 := Tryd.zeroValue119
  t182 := Tryd.underlying113
  a182 := Tryd.isAgg113
  z182 := Tryd.sizeOf113
  v182 := Tryd.zeroValue113
  t183 := Tryd.underlying114
  a183 := Tryd.isAgg114
  z183 := Tryd.sizeOf114
  v183 := Tryd.zeroValue114
  t218 := Tryd.underlying136
  a218 := Tryd.isAgg136
  z218 := Tryd.sizeOf136
  v218 := Tryd.zeroValue136
  t222 := Tryd.underlying98
  a222 := Tryd.isAgg98
  z222 := Tryd.sizeOf98
  v222 := Tryd.zeroValue98
  t228 := Tryd.underlying141
  a228 := Tryd.isAgg141
  z228 := Tryd.sizeOf141
  v228 := Tryd.zeroValue141
  t229 := Tryd.underlying90
  a229 := Tryd.isAgg90
  z229 := Tryd.sizeOf90
  v229 := Tryd.zeroValue90 }
theorem insertion_nil (p : Option Addr) (cap : Nat) (w : World) :
    Calls Tryd.prog 66 #[.slice p 0 cap, .int .i64 0, .int .i64 0] w fun e w' => e = .returned (.tuple #[]) ∧ w' = w := by
  go_enter Tryd.func66, Tryd.ntmps66
  go_wp2
  refine wp_loop_rounds 1 ?_
  rw [rounds_succ]
  go_wp2
  go_end0
  exact ⟨rfl, rfl⟩
set_option maxRecDepth 100000 in
theorem pdq_nil (p : Option Addr) (cap : Nat) (w : World) :
    Calls Tryd.prog 57 #[.slice p 0 cap, .int .i64 0, .int .i64 0, .int .i64 0] w fun e w' => e = .returned (.tuple #[]) ∧ w' = w := by
  go_enter Tryd.func57, Tryd.ntmps57
  go_wp2
  refine wp_loop_rounds 1 ?_
  rw [rounds_succ]
  go_wp2_with (first | (go_at_call 66; refine (insertion_nil p cap _).mono ?_; rintro e w' ⟨rfl, rfl⟩))
  refine bodyPost_ret (results_none rfl _ _ _) rfl ?_
  exact ⟨rfl, rfl⟩
set_option maxRecDepth 100000 in
theorem len64_nil (w : World) : Calls Tryd.prog 76 #[.int .u64 0] w fun e w' => e = .returned (.int .i64 0) ∧ w' = w := by
  go_enter Tryd.func76, Tryd.ntmps76
  go_wp2
  go_ret
  exact ⟨ret_i64 (by kernel_rfl), rfl⟩
set_option maxRecDepth 100000 in
theorem len_nil (w : World) : Calls Tryd.prog 58 #[.int .u64 0] w fun e w' => e = .returned (.int .i64 0) ∧ w' = w := by
  go_enter Tryd.func58, Tryd.ntmps58
  go_wp2_with (first | (go_at_call 76; refine (len64_nil _).mono ?_; rintro e w' ⟨rfl, rfl⟩))
  go_ret
  exact ⟨rfl, rfl⟩
set_option maxRecDepth 100000 in
theorem sort_nil (p : Option Addr) (cap : Nat) (w : World) :
    Calls Tryd.prog 42 #[.slice p 0 cap] w fun e w' => e = .returned (.tuple #[]) ∧ w' = w := by
  go_enter Tryd.func42, Tryd.ntmps42
  go_wp2_with (first
    | (go_at_call 58; refine (len_nil _).mono ?_; rintro e w' ⟨rfl, rfl⟩)
    | (go_at_call 57; refine (pdq_nil p cap _).mono ?_; rintro e w' ⟨rfl, rfl⟩))
  go_end0
  exact ⟨rfl, rfl⟩
def sortI (zs : List Int) : List Int := zs.mergeSort fun x y => decide (x ≤ y)
theorem sort_any {w : World} {base n : Nat} {v : Value} {zs : List Int} (hown : w.ownsRow base 3 1 v n (zs.map I)) (hn : n = zs.length) (hl : n ≤ 1000) :
    Calls Tryd.prog 42 #[v] w fun e w' => e = .returned (.tuple #[]) ∧ w'.ownsRow base 3 1 v n ((sortI zs).map I) ∧ Chg (fun k => v.ownBlock = some k) w w' := by
  subst hn
  rcases hown.2 with ⟨rfl, h0⟩ | ⟨g, cap, cur, rfl, hb, hg, hc, hm, hcs, htk⟩
  · refine (sort_nil none 0 w).mono ?_
    rintro e w' ⟨rfl, rfl⟩
    have : zs = [] := List.length_eq_zero_iff.1 h0
    subst this
    have e : sortI [] = [] := by simp [sortI]
    rw [e]
    exact ⟨rfl, hown, Chg.refl _ _⟩
  · have hH := holds_of_blockI (ss := zs) hg (by rw [← Nat.mul_one zs.length]; exact htk)
    have hc2 := Any.slices_Sort_int lays189 g 0 cap zs w hH (Array.getElem?_eq_some_iff.1 hg).1 (by omega)
    refine Calls.mono (show Calls Tryd.prog 42 _ w _ from hc2) ?_
    rintro e w' ⟨rfl, nn, os, rfl⟩
    have hlen : (zs.mergeSort fun x y => decide (x ≤ y)).length = zs.length := by simp
    have hgr := grownBy_sortedI (w := w) (g := g) (n := nn) (os := os) (zs.mergeSort fun x y => decide (x ≤ y)).toArray
    exact ⟨rfl, ownsRow_sortedI hlen hb hg hc hm hcs, ⟨hgr.os, hgr.tape, hgr.output, hgr.size, fun k hk hn => hgr.block k hk (fun e => hn e.symm)⟩⟩
theorem sort_is {zs ys : List Int} (hp : zs.Perm ys) (hy : ys.Pairwise (· < ·)) : sortI zs = ys := by
  have h1 : (sortI zs).Perm ys := (List.mergeSort_perm zs _).trans hp
  have h2 : (sortI zs).Pairwise (fun x y => decide (x ≤ y) = true) := List.pairwise_mergeSort (fun a b c h1 h2 => by simp at *; omega) (fun a b => by simp; omega) zs
  refine h1.eq_of_pairwise (le := fun x y => x ≤ y) (fun a b _ _ h3 h4 => by omega) (h2.imp (fun h => by simpa using h)) (hy.imp (fun h => by omega))
end Go.Proofs.YtkdndfdofhnagaaDoor
namespace Go.Proofs.YtkdndfdofhnagaaDoor
open Go.RowKit Go.PlainAid
set_option linter.unusedVariables false
set_option linter.unusedSimpArgs false
def rngLeft (w : World) (mb r : Nat) : Nat :=
  match w.heap[mb]?, w.heap[r]? with
  | some (.map es _), some (.mapIter _ _ seen _) => (leftOf es seen).size
  | _, _ => 0
theorem Rng.left {w : World} {mb r : Nat} {m : Int} {L D T : List Hd} (h : Rng w mb r m L D T) : rngLeft w mb r = T.length := by
  obtain ⟨es, c, s, sn, c0, hb, hs, he, hr, hold, hsc, hsk, hl, hp⟩ := h
  simp only [rngLeft, hb, hr]
  simpa using congrArg List.length hl
theorem Rng.next2 {w : World} {mb r : Nat} {m : Int} {L D T : List Hd} (h : Rng w mb r m L D T) :
    (T = [] ∧ ∀ ty, (Instr.next (.pointer (some ⟨r, 0, none⟩)) false ty).run Tryd.prog w = .ok (.tuple #[.bool false]) w) ∨
    ∃ x T' w', (∀ ty, (Instr.next (.pointer (some ⟨r, 0, none⟩)) false ty).run Tryd.prog w = .ok (.tuple #[.bool true, keyV m x.k, holdV x.am x.du]) w') ∧ (Instr.entry (.pointer (some ⟨r, 0, none⟩))).run Tryd.prog w' = .ok (.tuple #[keyV m x.k, holdV x.am x.du]) w' ∧
      Rng w' mb r m L (D ++ [x]) T' ∧ T'.length < T.length ∧ Stq r w w' ∧ w'.heap.size = w.heap.size := by
  rcases h.next 0 with ⟨h1, h2⟩ | ⟨x, T', w', h1, h2⟩
  · exact Or.inl ⟨h1, fun ty => h2⟩
  · exact Or.inr ⟨x, T', w', fun ty => h1, h2⟩
def sumH (L : List Hd) : Int := (L.map Hd.am).foldr (· + ·) 0
theorem sumH_append (a b : List Hd) : sumH (a ++ b) = sumH a + sumH b := by
  induction a with
  | nil => simp [sumH]
  | cons x t ih => simp only [sumH, List.cons_append, List.map_cons, List.foldr_cons] at ih ⊢; omega
theorem sumH_perm {a b : List Hd} (h : a.Perm b) : sumH a = sumH b := by
  induction h with
  | nil => rfl
  | cons x _ ih => simp only [sumH, List.map_cons, List.foldr_cons] at ih ⊢; omega
  | swap x y l => simp only [sumH, List.map_cons, List.foldr_cons]; omega
  | trans _ _ ih1 ih2 => exact ih1.trans ih2
theorem sumH_le (L : List Hd) (h : ∀ x ∈ L, 1 ≤ x.am ∧ x.am ≤ 1099511627776) : 0 ≤ sumH L ∧ sumH L ≤ 1099511627776 * L.length := by
  induction L with
  | nil => simp [sumH]
  | cons x t ih =>
    have h1 := h x (by simp)
    have h2 := ih (fun y hy => h y (by simp [hy]))
    simp only [sumH, List.map_cons, List.foldr_cons, List.length_cons] at h2 ⊢
    omega
/-- The loop's state: the iterator r, what has come, what is to come. -/
structure SumR (mb r : Nat) (b : BS) (w wr : World) (D T : List Hd) (acc : Int) : Prop where
  rng : Rng wr mb r b.me b.L D T
  bel : Below w.heap.size w wr
  sum : acc = sumH D
def SumE (mb r : Nat) (b : BS) (w wr : World) (acc : Int) : Prop := ∃ D T, SumR mb r b w wr D T acc
set_option maxRecDepth 100000 in
set_option maxHeartbeats 1600000 in
theorem sum_any {hb mb : Nat} {b : BS} (w : World) (hB : Bk hb mb b w) (hk : b.Ok) :
    Calls Tryd.prog 24 #[.pointer (some ⟨hb, 0, none⟩)] w fun r w' => r = .returned (.int .i64 (sumH b.L)) ∧ Below w.heap.size w w' := by
  have c3 := hB.c3
  obtain ⟨w1, hrg, hR, hb1, hs1⟩ := hB.map.range
  have hlt : mb < w.heap.size := hB.map.lt
  have hbd : ∀ D T : List Hd, (D ++ T).Perm b.L → 0 ≤ sumH D ∧ sumH D ≤ 1099511627776 * 16 := fun D T hp => by
    have h1 := sumH_le D (fun x hx => by have := hk.each x (hp.subset (List.mem_append.2 (Or.inl hx))); omega)
    have h2 := hp.length_eq
    have h3 := hk.len
    have h4 := hk.r1
    simp at h2
    omega
  have H0 : Hid _ := (⟨hR, hb1, rfl⟩ : SumR mb w.heap.size b w w1 [] b.L 0)
  have HBD : Hid _ := hbd
  have HLT : Hid _ := hlt
  clear hR hb1 hbd hB hk hlt hs1
  go_enter Tryd.func24, Tryd.ntmps24
  go_wp2
  go_loopw [3, 5] (fun i _ wr => ∃ acc, i = .int .i64 acc ∧ SumE mb w.heap.size b w wr acc) (fun _ _ wr => rngLeft wr mb w.heap.size)
  case atStart => exact ⟨0, rfl, [], b.L, H0.out⟩
  case round =>
    obtain ⟨acc, rfl, D, T, hE⟩ := hrel
    have hacc := hE.sum
    rcases hE.rng.next2 with ⟨hT, hn⟩ | ⟨x, T', w2, hn, hen, hr2, hlt2, hst2, hsz2⟩
    · have hfin : acc = sumH b.L := by
        have := hE.rng.perm
        rw [hT, List.append_nil] at this
        rw [hacc, sumH_perm this]
      have HF : Hid _ := hE.bel
      clear hE hT hacc
      subst hfin
      go_wp2
      go_ret
      exact ⟨rfl, HF.out⟩
    · have hlf := hE.rng.left
      have hbd1 := HBD.out _ _ hE.rng.perm
      have hbd2 := HBD.out _ _ hr2.perm
      rw [sumH_append] at hbd2
      have e1 : sumH [x] = x.am := by simp [sumH]
      rw [e1] at hbd2
      have hw : IntKind.i64.wrap (acc + x.am) = acc + x.am := by rw [IntKind.wrap_i64, hacc]; omega
      have hgz : Below w2.heap.size w2 (w2.alloc (.cells #[.int .i64 x.am, .int .i64 x.du] 80)) := (Below.refl _ _).alloc (Nat.le_refl _) _
      have hmb := HLT.out
      have hr3 : Rng (w2.alloc (.cells #[.int .i64 x.am, .int .i64 x.du] 80)) mb w.heap.size b.me b.L (D ++ [x]) T' := hr2.same (hgz.block _ hr2.map.lt) (hgz.block _ hr2.lt)
      have hE3 : SumR mb w.heap.size b w (w2.alloc (.cells #[.int .i64 x.am, .int .i64 x.du] 80)) (D ++ [x]) T' (acc + x.am) := ⟨hr3, ⟨hst2.os.trans hE.bel.os, hst2.tape.trans hE.bel.tape, hst2.output.trans hE.bel.output, by have := hE.bel.size; rw [World.size_alloc]; omega, fun k hk => (hgz.block k (by have := hE.bel.size; omega)).trans ((hst2.block k (by have := hE.bel.size; omega) (by omega)).trans (hE.bel.block k hk))⟩, by rw [sumH_append, e1, hacc]⟩
      have HE3 : Hid _ := hE3
      have HLF : Hid _ := (show rngLeft (w2.alloc (.cells #[.int .i64 x.am, .int .i64 x.du] 80)) mb w.heap.size < rngLeft wr mb w.heap.size from by rw [hr3.left, hlf]; exact hlt2)
      unfold keyV holdV at hn hen
      clear hE hacc hr2 hlt2 hst2 hsz2 hlf hbd1 hbd2 e1 hgz hmb hr3 hE3
      go_wp2
      go_roundw
      case rel => exact ⟨acc + x.am, rfl, D ++ [x], T', HE3.out⟩
      case measure => exact HLF.out
end Go.Proofs.YtkdndfdofhnagaaDoor
namespace Go.Proofs.YtkdndfdofhnagaaDoor
open Go.RowKit Go.PlainAid
set_option linter.unusedVariables false
set_option linter.unusedSimpArgs false
def numsOf (me : Int) (L : List Hd) : List Int := L.map fun h => h.k * 16 + me
def BS.nums (b : BS) : List Int := numsOf b.me b.L
theorem nums_sorted {b : BS} (hk : b.Ok) : b.nums.Pairwise (· < ·) := by
  unfold BS.nums numsOf
  rw [List.pairwise_map]
  exact hk.keys.imp (fun h => by omega)
structure NumR (mb r : Nat) (b : BS) (w wr : World) (D T : List Hd) (v : Value) : Prop where
  rng : Rng wr mb r b.me b.L D T
  bel : Below w.heap.size w wr
  own : wr.ownsRow w.heap.size 3 1 v D.length ((numsOf b.me D).map I)
theorem NumR.ne1 {mb r : Nat} {b : BS} {w wr : World} {D T : List Hd} {v : Value} (h : NumR mb r b w wr D T v) : v.ownBlock ≠ some mb := fun e => by
  obtain ⟨cur, h1⟩ := ownsRow_type h.own e
  obtain ⟨_, _, h2, _⟩ := h.rng.map
  have := h1.symm.trans h2
  simp at this
theorem NumR.ne2 {mb r : Nat} {b : BS} {w wr : World} {D T : List Hd} {v : Value} (h : NumR mb r b w wr D T v) : v.ownBlock ≠ some r := fun e => by
  obtain ⟨cur, h1⟩ := ownsRow_type h.own e
  obtain ⟨_, _, _, _, _, _, _, _, h2, _⟩ := h.rng
  have := h1.symm.trans h2
  simp at this
/-- A round: the next hold has come, its number is appended. -/
theorem NumR.step {mb : Nat} {b : BS} {w wr w2 w4 : World} {D T T' : List Hd} {v v' : Value} {x : Hd} {A B : Obj} (h : NumR mb w.heap.size b w wr D T v) (hmb : mb < w.heap.size) (hr : Rng w2 mb w.heap.size b.me b.L (D ++ [x]) T') (hst : Stq w.heap.size wr w2) (hsz : w2.heap.size = wr.heap.size)
    (h1 : w4.ownsRow w.heap.size 3 1 v' (D.length + 1) ((numsOf b.me D ++ [x.k * 16 + b.me]).map I)) (hg : Grew ((w2.alloc A).alloc B) w4 v v') : NumR mb w.heap.size b w w4 (D ++ [x]) T' v' := by
  have hwr := h.bel.size
  have hb2 : ∀ k, k < w2.heap.size → ((w2.alloc A).alloc B).heap[k]? = w2.heap[k]? := fun k hk => (Below.heap_alloc _ _ _ (by rw [World.size_alloc]; omega)).trans (Below.heap_alloc _ _ _ hk)
  have hs2 : ((w2.alloc A).alloc B).heap.size = w2.heap.size + 2 := by rw [World.size_alloc, World.size_alloc]
  have key : ∀ k, k < w2.heap.size → v.ownBlock ≠ some k → w4.heap[k]? = w2.heap[k]? := fun k hk hn => (hg.g.block k (by omega) (fun e => hn e.symm)).trans (hb2 k hk)
  have hb3 : ∀ k, k < w.heap.size → w4.heap[k]? = w.heap[k]? := fun k hk => (key k (by omega) (fun e => by have := (ownsRow_lt h.own e).1; omega)).trans ((hst.block k (by omega) (by omega)).trans (h.bel.block k hk))
  exact ⟨hr.same (key _ (by omega) h.ne1) (key _ (by rw [hsz]; exact h.rng.lt) h.ne2), ⟨hg.g.os.trans (hst.os.trans h.bel.os), hg.g.tape.trans (hst.tape.trans h.bel.tape), hg.g.output.trans (hst.output.trans h.bel.output), by have := hg.g.size; omega, hb3⟩, by simpa [numsOf] using h1⟩
def NumE (mb r : Nat) (b : BS) (w wr : World) (v : Value) : Prop := ∃ D T, NumR mb r b w wr D T v
set_option maxRecDepth 100000 in
set_option maxHeartbeats 1600000 in
theorem numbers_any {hb mb : Nat} {b : BS} (w : World) (hB : Bk hb mb b w) (hk : b.Ok) (hmade : b.made ≤ 1000001) :
    Calls Tryd.prog 26 #[.pointer (some ⟨hb, 0, none⟩)] w fun r w' => ∃ v, r = .returned v ∧ w'.ownsRow w.heap.size 3 1 v b.L.length (b.nums.map I) ∧ Below w.heap.size w w' := by
  have c3 := hB.c3
  obtain ⟨w1, hrg, hR, hb1, hs1⟩ := hB.map.range
  have hlt : mb < w.heap.size := hB.map.lt
  have H0 : Hid _ := (⟨hR, hb1, World.ownsRow_nil _ _ _ _⟩ : NumR mb w.heap.size b w w1 [] b.L (.slice none 0 0))
  have HLT : Hid _ := hlt
  have HSO : Hid _ := nums_sorted hk
  have HLE : Hid _ := (show b.L.length ≤ 16 from by have := hk.len; have := hk.r1; omega)
  have HNN : Hid _ := (show ∀ x ∈ b.L, (1 ≤ x.k ∧ x.k ≤ 1000001) ∧ 0 ≤ b.me ∧ b.me < 16 from fun x hx => by have := hk.each x hx; have := hk.me0; have := hk.me1; omega)
  clear hR hb1 hB hk hlt hs1
  go_enter Tryd.func26, Tryd.ntmps26
  go_wp2
  go_loopw [3, 4] (fun v _ wr => NumE mb w.heap.size b w wr v) (fun _ _ wr => rngLeft wr mb w.heap.size)
  case atStart => exact ⟨[], b.L, H0.out⟩
  case round =>
    obtain ⟨D, T, hE⟩ := hrel
    rcases hE.rng.next2 with ⟨hT, hn⟩ | ⟨x, T', w2, hn, hen, hr2, hlt2, hst2, hsz2⟩
    · have hp := hE.rng.perm
      rw [hT, List.append_nil] at hp
      have hlen := hp.length_eq
      have hso : sortI (numsOf b.me D) = b.nums := sort_is (hp.map _) HSO.out
      have hle := HLE.out
      have hsc := sort_any hE.own (by simp [numsOf]) (by omega)
      rw [hso] at hsc
      have hbel := hE.bel
      have hge := fun k (e : u3.ownBlock = some k) => (ownsRow_lt hE.own e).1
      rw [hlen] at hsc
      have HS : Hid _ := hsc
      have HB : Hid _ := hbel
      have HGE : Hid _ := hge
      clear hE hT hp hlen hso hle hsc hbel hge
      go_wp2_with fail
      refine Calls.mono HS.out ?_
      rintro e w3 ⟨rfl, ho3, hc3⟩
      have HO : Hid _ := ho3
      have HC : Hid _ := HB.out.trans (hc3.below HB.out.size HGE.out)
      clear ho3 hc3
      go_wp2_with fail
      go_ret
      exact ⟨_, rfl, HO.out, HC.out⟩
    · have hlf := hE.rng.left
      have hx : x ∈ b.L := hr2.perm.subset (by simp)
      obtain ⟨⟨hx1, hx2⟩, hm0, hm1⟩ := HNN.out x hx
      have hnum := fun W => number_any b.me x.k W (by rw [IntKind.wrap_i64]; omega) (by rw [IntKind.wrap_i64]; omega)
      have hDl : D.length + T.length = b.L.length := by have := hE.rng.perm.length_eq; simpa using this
      have hle := HLE.out
      have hown2 : w2.ownsRow w.heap.size 3 1 u3 D.length ((numsOf b.me D).map I) := ownsRow_same hE.own (fun g hg => hst2.block g (ownsRow_lt hE.own hg).2 (fun e => hE.ne2 (e ▸ hg)))
      have hws := hE.bel.size
      have hD16 : D.length + 1 ≤ 100000 := by omega
      have HE : Hid _ := hE
      have HR : Hid _ := (show Rng w2 mb w.heap.size b.me b.L (D ++ [x]) T' ∧ T'.length < T.length ∧ Stq w.heap.size wr w2 ∧ w2.heap.size = wr.heap.size ∧ rngLeft wr mb w.heap.size = T.length from ⟨hr2, hlt2, hst2, hsz2, hlf⟩)
      have HOW : Hid _ := hown2
      unfold keyV holdV at hn hen
      unfold keyV at hnum
      have hbs : w.heap.size ≤ w2.heap.size := by omega
      clear hE hr2 hlt2 hst2 hsz2 hlf hx hx1 hx2 hm0 hm1 hDl hle hown2 hws
      go_wp2_with (first | (go_at_call 37; refine (hnum _).mono ?_; rintro e w' ⟨rfl, rfl⟩) | (at_builtin; refine wpList_appI rfl _ _ rfl w.heap.size D.length u3 (numsOf b.me D) rfl ((World.ownsRow.alloc HOW.out _).alloc _) (x.k * 16 + b.me) rfl (by simp) hD16 (by simp; omega) ?_; intro v' w4 ho4 hg4 _))
      have hR := HR.out
      have hE4 := NumR.step HE.out HLT.out hR.1 hR.2.2.1 hR.2.2.2.1 ho4 hg4
      have HE4 : Hid _ := hE4
      have HLF : Hid _ := (show rngLeft w4 mb w.heap.size < rngLeft wr mb w.heap.size from by rw [hE4.rng.left, hR.2.2.2.2]; exact hR.2.1)
      clear hR hE4 ho4 hg4
      go_wp2
      go_roundw
      case rel => exact ⟨D ++ [x], T', HE4.out⟩
      case measure => exact HLF.out
end Go.Proofs.YtkdndfdofhnagaaDoor
