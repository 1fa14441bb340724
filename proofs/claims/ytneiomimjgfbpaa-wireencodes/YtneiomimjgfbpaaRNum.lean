import Derived.Test.YtneiomimjgfbpaaRGet
namespace Go.Proofs.Ytneiomimjgfbpaa
open Go.RowKit Go.PlainAid
def Blk (w : World) (mb : Nat) (C : Array Value) (T : TypeId) : Prop := w.heap[mb]? = some (.cells C T (0, 0))
theorem Blk.cell {w : World} {mb : Nat} {C : Array Value} {T : TypeId} (h : Blk w mb C T) (j : Nat) : w.cell? ⟨mb, j, none⟩ = C[j]? := cell_of_row w mb j C T (0, 0) h
theorem Blk.frozen {w : World} {mb : Nat} {C : Array Value} {T : TypeId} (h : Blk w mb C T) (j : Nat) : w.frozen? ⟨mb, j, none⟩ = false := by unfold Blk at h; simp [World.frozen?, h]
theorem Blk.lt {w : World} {mb : Nat} {C : Array Value} {T : TypeId} (h : Blk w mb C T) : mb < w.heap.size := (Array.getElem?_eq_some_iff.1 h).1
theorem Blk.set {w : World} {mb : Nat} {C : Array Value} {T : TypeId} (h : Blk w mb C T) (j : Nat) (v : Value) : Blk (w.setCell ⟨mb, j, none⟩ v) mb (C.setIfInBounds j v) T := by
  unfold Blk at *
  simp [World.setCell, Array.getElem?_modify, h]
theorem Blk.keep {w w' : World} {hb mb : Nat} {C : Array Value} {T : TypeId} (h : Blk w mb C T) (hs : RStep hb hb w w') (hne : mb ≠ hb) : Blk w' mb C T := (hs.block mb h.lt hne hne).trans h
theorem RSt.setM {hb mb : Nat} {b off : Nat} {n cap : Nat} {bs : List UInt8} {p : Nat} {w : World} (h : RSt hb (some ⟨b, off, none⟩) n cap bs p w) (h1 : mb ≠ hb) (h2 : b ≠ mb) (j : Nat) (v : Value) : RSt hb (some ⟨b, off, none⟩) n cap bs p (w.setCell ⟨mb, j, none⟩ v) :=
  h.other (Below.heap_setCell _ _ _ _ (fun e => h1 e.symm)) (fun b' off' e => by cases e; exact Below.heap_setCell _ _ _ _ h2)
def tup : Ending := .returned (.tuple #[])
set_option maxHeartbeats 800000 in
theorem number_r (hb b off n cap : Nat) (bs : List UInt8) (p mb mo lo hi : Nat) (C : Array Value) (T : TypeId) (old : Value) (lo' hi' : Int) (w : World) (hS : RSt hb (some ⟨b, off, none⟩) n cap bs p w)
    (hB : Blk w mb C T) (ho : C[mo]? = some old) (hne : mb ≠ hb) (hne2 : b ≠ mb) (elo : lo' = lo) (ehi : hi' = hi) (hlh : lo ≤ hi) (hh : hi < 2 ^ 63) :
    Calls Try.prog 122 #[.pointer (some ⟨hb, 0, none⟩), .pointer (some ⟨mb, mo, none⟩), .int .i64 lo', .int .i64 hi'] w
      (RPostV hb mb (some ⟨b, off, none⟩) n cap bs p w ((num lo hi).rd (bs.drop p)) fun v e w' => e = tup ∧ Blk w' mb (C.setIfInBounds mo (.int .i64 v)) T) := by
  subst elo ehi
  have c1 := hS.cell1
  have hle := hS.le
  go_enter Try.func122, Try.ntmps122
  go_wp2_with fail
  refine (get_some hb b off n cap bs p _ hS).mono ?_
  intro e w1 h
  unfold RPostV at h
  cases hr : raw.rd (bs.drop p) with
  | error k =>
    rw [hr] at h
    obtain ⟨rfl, hS1, hst1⟩ := h
    refine ⟨rfl, ?_⟩
    unfold RPostV
    have hn : (num lo hi).rd (bs.drop p) = .error k := by simp only [num]; rw [hr]
    rw [hn]
    exact ⟨rfl, hS1, hst1.wide⟩
  | ok v =>
    obtain ⟨u, k⟩ := v
    rw [hr] at h
    obtain ⟨rfl, hS1, hst1⟩ := h
    have hB1 := hB.keep hst1 hne
    have q0 := hB1.cell mo
    rw [ho] at q0
    have q1 := hB1.frozen mo
    by_cases h1 : lo ≤ u ∧ u ≤ hi
    · have hn : (num lo hi).rd (bs.drop p) = .ok ((u : Int), k) := by
        simp only [num]; rw [hr]; simp only; rw [if_pos (by simp; omega)]
      have HN : Hid _ := hn
      obtain ⟨h1, h2⟩ := h1
      clear hn hr hB c1 hS
      go_wp2
      go_end0
      unfold RPostV
      rw [HN.out]
      exact ⟨⟨rfl, hB1.set _ _⟩, hS1.setM hne hne2 _ _, hst1.wide.trans (RStep.setM _ _ _)⟩
    · have hn : (num lo hi).rd (bs.drop p) = .error 0 := by
        simp only [num]; rw [hr]; simp only; rw [if_neg (by simp; omega)]
      have HN : Hid _ := hn
      have hS1' := hS1
      clear hn hr hB c1 hS
      by_cases h2 : u < lo
      · go_wp2_with fail
        refine (giveUp_any hb _ n cap bs (p + k) p _ hS1 hle).mono ?_
        rintro e w2 ⟨rfl, hS2, hst2⟩
        refine ⟨rfl, ?_⟩
        unfold RPostV
        rw [HN.out]
        exact ⟨rfl, hS2, (hst1.trans hst2).wide⟩
      · have h3 : hi < u := by omega
        clear h1
        go_wp2_with fail
        refine (giveUp_any hb _ n cap bs (p + k) p _ hS1 hle).mono ?_
        rintro e w2 ⟨rfl, hS2, hst2⟩
        refine ⟨rfl, ?_⟩
        unfold RPostV
        rw [HN.out]
        exact ⟨rfl, hS2, (hst1.trans hst2).wide⟩
theorem and1 (u : Nat) (h : u < 2 ^ 64) : bits BinOp.and IntKind.u64 (u : Int) 1 = ((u % 2 : Nat) : Int) := by
  have h := (bits_nat IntKind.u64 64 (by decide) (fun n h0 h1 => IntWalk.u64_in n ⟨h0, by omega⟩) u 1 h (by omega)).1
  rw [show (1 : Int) = ((1 : Nat) : Int) from rfl, h, Nat.and_one_is_mod]
theorem xor_unzig (u : Nat) (h : u < 2 ^ 64) : bits BinOp.xor IntKind.i64 ((u : Int) / 2) (wrap64 (-wrap64 (bits BinOp.and IntKind.u64 (u : Int) 1))) = unzig u := by
  rw [and1 u h]
  have e0 : ((u : Int) / 2) = ((u / 2 : Nat) : Int) := by omega
  rw [e0]
  have hx : u / 2 < 2 ^ 64 := by omega
  unfold unzig
  by_cases he : u % 2 = 0
  · rw [if_pos he, he]
    have e1 : wrap64 (-wrap64 ((0 : Nat) : Int)) = 0 := by go_arith
    rw [e1]
    have e : (BitVec.ofInt 64 ((u / 2 : Nat) : Int) ^^^ BitVec.ofInt 64 0).toNat = u / 2 := by
      rw [show BitVec.ofInt 64 0 = 0#64 from rfl, BitVec.xor_zero, BitVec.ofInt_natCast, BitVec.toNat_ofNat, Nat.mod_eq_of_lt hx]
    show IntKind.i64.wrap (((BitVec.ofInt 64 ((u / 2 : Nat) : Int) ^^^ BitVec.ofInt 64 0).toNat : Nat) : Int) = _
    rw [e, IntKind.wrap_i64]
    omega
  · rw [if_neg he, show u % 2 = 1 from by omega]
    have e1 : wrap64 (-wrap64 ((1 : Nat) : Int)) = -1 := by go_arith
    rw [e1]
    have e : (BitVec.ofInt 64 ((u / 2 : Nat) : Int) ^^^ BitVec.ofInt 64 (-1)).toNat = 18446744073709551615 - u / 2 := by
      have h1 : BitVec.ofInt 64 (-1) = BitVec.allOnes 64 := by decide
      rw [h1, BitVec.xor_allOnes, BitVec.toNat_not, BitVec.ofInt_natCast, BitVec.toNat_ofNat, Nat.mod_eq_of_lt hx]
    show IntKind.i64.wrap (((BitVec.ofInt 64 ((u / 2 : Nat) : Int) ^^^ BitVec.ofInt 64 (-1)).toNat : Nat) : Int) = _
    rw [e, IntKind.wrap_i64]
    omega
theorem unfold_any (u : Nat) (w : World) (h : u < 2 ^ 64) : Calls Try.prog 128 #[.int .u64 (u : Nat)] w fun e w' => e = .returned (.int .i64 (unzig u)) ∧ w' = w := by
  have hxz := xor_unzig u h
  have HX : Hid _ := hxz
  clear hxz
  go_enter Try.func128, Try.ntmps128
  go_wp2
  go_ret
  exact ⟨congrArg (fun z => Ending.returned (Value.int .i64 z)) HX.out, rfl⟩
set_option maxHeartbeats 800000 in
theorem signed_r (hb b off n cap : Nat) (bs : List UInt8) (p mb mo : Nat) (C : Array Value) (T : TypeId) (old : Value) (w : World) (hS : RSt hb (some ⟨b, off, none⟩) n cap bs p w)
    (hB : Blk w mb C T) (ho : C[mo]? = some old) (hne : mb ≠ hb) (hne2 : b ≠ mb) :
    Calls Try.prog 123 #[.pointer (some ⟨hb, 0, none⟩), .pointer (some ⟨mb, mo, none⟩)] w
      (RPostV hb mb (some ⟨b, off, none⟩) n cap bs p w (signed.rd (bs.drop p)) fun v e w' => e = tup ∧ Blk w' mb (C.setIfInBounds mo (.int .i64 v)) T) := by
  go_enter Try.func123, Try.ntmps123
  go_wp2_with fail
  refine (get_some hb b off n cap bs p _ hS).mono ?_
  intro e w1 h
  unfold RPostV at h
  cases hr : raw.rd (bs.drop p) with
  | error k =>
    rw [hr] at h
    obtain ⟨rfl, hS1, hst1⟩ := h
    refine ⟨rfl, ?_⟩
    unfold RPostV
    have hn : signed.rd (bs.drop p) = .error k := by simp only [signed]; rw [hr]
    rw [hn]
    exact ⟨rfl, hS1, hst1.wide⟩
  | ok v =>
    obtain ⟨u, k⟩ := v
    rw [hr] at h
    obtain ⟨rfl, hS1, hst1⟩ := h
    have hB1 := hB.keep hst1 hne
    have q0 := hB1.cell mo
    rw [ho] at q0
    have q1 := hB1.frozen mo
    have hn : signed.rd (bs.drop p) = .ok (unzig u, k) := by simp only [signed]; rw [hr]
    have hul := (raw_lt hr).1
    have HN : Hid _ := hn
    clear hn hr hB hS
    go_wp2_with fail
    refine (unfold_any u w1 hul).mono ?_
    rintro e w2 ⟨rfl, hw2⟩
    subst hw2
    go_wp2
    go_end0
    unfold RPostV
    rw [HN.out]
    exact ⟨⟨rfl, hB1.set _ _⟩, hS1.setM hne hne2 _ _, hst1.wide.trans (RStep.setM _ _ _)⟩
end Go.Proofs.Ytneiomimjgfbpaa
