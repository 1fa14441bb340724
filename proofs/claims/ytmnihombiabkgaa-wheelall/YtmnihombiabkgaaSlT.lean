import Derived.Test.YtmnihombiabkgaaTkd2
namespace Go.Proofs.Ytmnihombiabkgaa
open Go.RowKit Go.PlainAid Go.MapKept
set_option linter.unusedVariables false
set_option linter.unusedSimpArgs false
/-- Cells in a row. -/
def RowAt (W : World) (b off : Nat) (cs : List Value) : Prop := ∀ j v, cs[j]? = some v → W.cell? ⟨b, off + j, none⟩ = some v
theorem RowAt.below {W W' : World} {L b off : Nat} {cs : List Value} (h : RowAt W b off cs) (hb : Below L W W') (hL : b < L) : RowAt W' b off cs := fun j v hv => (hb.cell (p := ⟨b, off + j, none⟩) hL).trans (h j v hv)
theorem RowAt.lt {W : World} {b off : Nat} {cs : List Value} (h : RowAt W b off cs) (h0 : 0 < cs.length) : b < W.heap.size := World.block_lt_of_cell? W _ (h 0 _ (List.getElem?_eq_getElem h0))
/-- A call of the script. -/
structure LA where
  k : Int
  a : Int
  b : Int
  c : Int
def LA.row (x : LA) : List Value := [.int .i64 x.k, .int .i64 x.a, .int .i64 x.b, .int .i64 x.c]
/-- A script that came in. -/
def ActsAt (W : World) (ao : Option Addr) (N : Nat) (os : List LA) : Prop := os.length = N ∧ (0 < N → ∃ b off, ao = some ⟨b, off, none⟩ ∧ ∀ i o, os[i]? = some o → RowAt W b (off + i * 4) o.row)
theorem ActsAt.get {W W' : World} {ao : Option Addr} {N : Nat} {os : List LA} (h : ActsAt W ao N os) (hb : Below W.heap.size W W') {i : Nat} (hi : i < N) :
    ∃ b off o, ao = some ⟨b, off, none⟩ ∧ W'.cell? ⟨b, off + i * 4, none⟩ = some (.int .i64 o.k) ∧ W'.cell? ⟨b, off + i * 4 + 1, none⟩ = some (.int .i64 o.a) ∧ W'.cell? ⟨b, off + i * 4 + 2, none⟩ = some (.int .i64 o.b) ∧ W'.cell? ⟨b, off + i * 4 + 3, none⟩ = some (.int .i64 o.c) ∧ os[i]? = some o := by
  obtain ⟨b, off, e, hr⟩ := h.2 (by omega)
  have ho : os[i]? = some (os[i]'(by rw [h.1]; exact hi)) := List.getElem?_eq_getElem _
  have hr' := hr i _ ho
  have hr2 := hr'.below hb (hr'.lt (by simp [LA.row]))
  exact ⟨b, off, _, e, hr2 0 _ rfl, hr2 1 _ rfl, hr2 2 _ rfl, hr2 3 _ rfl, ho⟩
structure HD where
  base : Nat
  whb : Nat
  mp : Nat
  u : Int
def HD.own (h : HD) (vs : List Value) (k : Nat) : Prop := wown h.whb h.mp vs k
def HD.ok (h : HD) (s : WV) (vs : List Value) (w : World) : Prop := WH h.base h.whb h.mp h.u s vs w
/-- Three wheels apart. -/
structure SS (L : Nat) (a b c : HD) (W : World) (sa sb sc : WV) (va vb vc : List Value) (wr : World) : Prop where
  ha : a.ok sa va wr
  hb : b.ok sb vb wr
  hc : c.ok sc vc wr
  ab : ∀ k, a.own va k → ¬ b.own vb k
  ac : ∀ k, a.own va k → ¬ c.own vc k
  bc : ∀ k, b.own vb k → ¬ c.own vc k
  la : L ≤ a.base ∧ L ≤ b.base ∧ L ≤ c.base
  bl : Below L W wr
  lo : L ≤ wr.heap.size
section
variable {L : Nat} {a b c : HD} {W : World} {sa sb sc sa' : WV} {va vb vc va' : List Value} {wr w' : World}
theorem HD.keep {S : Nat → Prop} (h : a.ok sa va wr) (hc : Chg S wr w') (hS : ∀ k, a.own va k → ¬ S k) : a.ok sa va w' := ⟨h.wl.keep hc hS, h.wb⟩
theorem HD.lt (h : a.ok sa va wr) {k : Nat} (hk : a.own va k) : a.base ≤ k ∧ k < wr.heap.size := ⟨h.wl.ge hk, h.wl.lt hk⟩
theorem SS.swap (h : SS L a b c W sa sb sc va vb vc wr) : SS L b a c W sb sa sc vb va vc wr := ⟨h.hb, h.ha, h.hc, fun k h1 h2 => h.ab k h2 h1, h.bc, h.ac, ⟨h.la.2.1, h.la.1, h.la.2.2⟩, h.bl, h.lo⟩
theorem SS.swac (h : SS L a b c W sa sb sc va vb vc wr) : SS L c b a W sc sb sa vc vb va wr := ⟨h.hc, h.hb, h.ha, fun k h1 h2 => h.bc k h2 h1, fun k h1 h2 => h.ac k h2 h1, fun k h1 h2 => h.ab k h2 h1, ⟨h.la.2.2, h.la.2.1, h.la.1⟩, h.bl, h.lo⟩
theorem SS.more (h : SS L a b c W sa sb sc va vb vc wr) (hm : Below wr.heap.size wr w') : SS L a b c W sa sb sc va vb vc w' :=
  ⟨HD.keep h.ha (Chg.ofBelow (fun _ => False) hm) (fun _ _ e => e), HD.keep h.hb (Chg.ofBelow (fun _ => False) hm) (fun _ _ e => e), HD.keep h.hc (Chg.ofBelow (fun _ => False) hm) (fun _ _ e => e), h.ab, h.ac, h.bc, h.la, h.bl.trans (hm.mono h.lo), Nat.le_trans h.lo hm.size⟩
theorem SS.set (h : SS L a b c W sa sb sc va vb vc wr) (hw : a.ok sa' va' w') (hs : WStp a.whb a.mp va va' wr w') : SS L a b c W sa' sb sc va' vb vc w' := by
  refine ⟨hw, HD.keep h.hb hs.1 (fun k h1 h2 => h.ab k h2 h1), HD.keep h.hc hs.1 (fun k h1 h2 => h.ac k h2 h1), fun k h1 h2 => ?_, fun k h1 h2 => ?_, h.bc, h.la, h.bl.trans (hs.1.below h.lo (fun k hk => Nat.le_trans h.la.1 (HD.lt h.ha hk).1)), Nat.le_trans h.lo hs.1.size⟩
  · rcases hs.2 k h1 with h3 | h3
    · exact h.ab k h3 h2
    · have := (HD.lt h.hb h2).2; omega
  · rcases hs.2 k h1 with h3 | h3
    · exact h.ac k h3 h2
    · have := (HD.lt h.hc h2).2; omega
end
theorem nx_now (k a b c : Int) (s : WV) : (nx k a b c s).now ≤ s.now + 1 ∧ (nx k a b c s).last ≤ s.last + 1 := by
  unfold nx
  split
  · exact ⟨by show s.now ≤ _; omega, by show s.last + 1 ≤ _; omega⟩
  · split
    · exact ⟨by show s.now ≤ _; omega, by show s.last ≤ _; omega⟩
    · split
      · exact ⟨by show s.now + 1 ≤ _; omega, by show s.last ≤ _; omega⟩
      · exact ⟨by omega, by omega⟩
/-- The law's loop: so many calls are played. -/
def SRel (L : Nat) (a b c : HD) (W : World) (m : Nat) (wr : World) : Prop := ∃ s sc va vb vc, SS L a b c W s s sc va vb vc wr ∧ s.now ≤ m ∧ s.last ≤ m ∧ sc.now ≤ m ∧ sc.last ≤ m
end Go.Proofs.Ytmnihombiabkgaa
